package courier_test

import (
	"math"
	"math/rand"
	"slices"
	"strconv"
	"strings"
	"testing"

	"courier/api"
	"courier/courier"
)

func TestEndsAreMade(t *testing.T) {
	good := api.Config{Window: 2, Deadline: 10, Retain: 4}
	long := worldSchema + strings.Repeat(" ", api.MaxSchema)
	type made struct {
		schema string
		config api.Config
		want   api.Errno
	}
	cases := []made{
		{worldSchema, good, api.OK}, {"", good, api.OK}, {exampleSchema, good, api.OK},
		{"x", good, api.ErrSchema}, {"stream a b", good, api.ErrSchema}, {long, good, api.ErrSchema}, {"message a { 1 x a }", good, api.ErrSchema},
		{"x", api.Config{}, api.ErrSchema}, {long, api.Config{Window: -1}, api.ErrSchema}, {worldSchema, api.Config{}, api.ErrConfig},
	}
	for _, bound := range []struct {
		least, most int
		with        func(int) api.Config
	}{
		{1, api.MaxWindow, func(n int) api.Config { return api.Config{Window: n, Deadline: 10, Retain: 4} }},
		{api.MinDeadline, api.MaxDeadline, func(n int) api.Config { return api.Config{Window: 2, Deadline: n, Retain: 4} }},
		{1, api.MaxRetain, func(n int) api.Config { return api.Config{Window: 2, Deadline: 10, Retain: n} }},
	} {
		for _, n := range []int{bound.least, bound.least + 1, bound.most - 1, bound.most} {
			cases = append(cases, made{worldSchema, bound.with(n), api.OK})
		}
		for _, n := range []int{math.MinInt, -1, bound.least - 1, bound.most + 1, 1 << 32, 1<<32 + bound.least, math.MaxInt} {
			cases = append(cases, made{worldSchema, bound.with(n), api.ErrConfig})
		}
	}
	for _, c := range cases {
		server, e := courier.NewServer(c.schema, c.config)
		if e != c.want || (server != nil) != (e == api.OK) {
			t.Errorf("P7: NewServer(%.30q, %v) = %v, %d, want %d", c.schema, c.config, server, e, c.want)
		}
		for _, token := range []uint64{0, 1, 1 << 63, math.MaxUint64} {
			client, e := courier.NewClient(c.schema, c.config, token)
			if e != c.want || (client != nil) != (e == api.OK) {
				t.Errorf("P7: NewClient(%.30q, %v, %d) = %v, %d, want %d", c.schema, c.config, token, client, e, c.want)
			}
		}
	}
}

// TestNumbersOfConnections goes through Up, Down and Receive with all sorts of
// numbers, and holds them against the words of P8.
func TestNumbersOfConnections(t *testing.T) {
	numbers := []int{math.MinInt, math.MinInt + 1, -7, -1, 0, 1, 2, 3, 1 << 40, math.MaxInt - 1, math.MaxInt}
	source := rand.New(rand.NewSource(20))
	for range 300 {
		w := newWorld(t, 2, 10, 4)
		for _, x := range w.sides {
			var had []int
			isUp := false
			for range 30 {
				conn := numbers[source.Intn(1+source.Intn(len(numbers)))]
				isLast := isUp && conn == had[len(had)-1]
				may := api.ErrConn
				if isLast {
					may = api.OK
				}
				switch source.Intn(3) {
				case 0:
					want := api.OK
					if len(had) > 0 && slices.Max(had) >= conn {
						want = api.ErrConn
					}
					w.is("P8: Up", x.Up(conn), want)
					if want == api.OK {
						had, isUp = append(had, conn), true
					}
				case 1:
					w.is("P8: Down", x.Down(conn), may)
					isUp = isUp && !isLast
				case 2:
					w.is("P8: Receive", x.Receive(conn, []byte("none")), may)
				}
				x.Tick()
				if frames := x.Out(); isUp != (len(frames) > 0) || len(frames) > api.MaxOut {
					t.Fatalf("P8: behind a Tick, with a connection: %v, %d frames come out", isUp, len(frames))
				}
			}
		}
	}
}

// TestErrorsOfConnectionsChangeNothing: what is refused is as if it had not been.
func TestErrorsOfConnectionsChangeNothing(t *testing.T) {
	w := newWorld(t, 2, 10, 4)
	w.connect()
	w.publish("ticks", "1")
	number := w.subscribe("ticks", 0)
	for _, x := range w.sides {
		for _, conn := range []int{math.MinInt, 0, 1} {
			w.is("P8: Up", x.Up(conn), api.ErrConn)
		}
		for _, conn := range []int{math.MinInt, 0, 2} {
			w.is("P8: Down", x.Down(conn), api.ErrConn)
			w.is("P8: Receive", x.Receive(conn, nil), api.ErrConn)
		}
	}
	w.rounds(2)
	w.wants(number, 1, false)
}

// TestWhatIsNoFrame: all of it is passed over, and counts for nothing.
func TestWhatIsNoFrame(t *testing.T) {
	source := rand.New(rand.NewSource(21))
	w := newWorld(t, 2, 10, 4)
	w.connect()
	w.publish("ticks", "1", "2")
	number := w.subscribe("ticks", 0)
	w.tick(clientSide)
	flights := slices.Concat(w.out(clientSide), w.out(serverSide))
	for _, at := range []int{clientSide, serverSide} {
		for _, bad := range [][]byte{nil, {}, {0}, {1}, {1, 97}, {1, 97, 0, 0, 0, 0}, []byte("no frame at all"), make([]byte, 1<<20), slices.Repeat([]byte{255}, 300)} {
			w.handBytes(at, 1, bad)
		}
		for _, f := range flights {
			w.handBytes(at, 1, slices.Concat(f.frame, f.frame))
			w.handBytes(at, 1, append(slices.Clone(f.frame), 0))
			w.handBytes(at, 1, f.frame[1:])
			for i := range f.frame {
				w.handBytes(at, 1, f.frame[:i])
				for range 8 {
					bad := slices.Clone(f.frame)
					bad[i] ^= byte(1 + source.Intn(255))
					w.handBytes(at, 1, bad)
				}
			}
		}
	}
	for _, at := range []int{clientSide, serverSide} {
		if frames := w.out(at); len(frames) > 0 {
			t.Errorf("P8: what is no frame is answered by %v", frames)
		}
	}
	w.rounds(2)
	w.wants(number, 2, false)
	// Nor is it a sign of the other side: the session ends.
	for range 10 {
		w.tick(clientSide)
		for _, f := range w.out(clientSide) {
			f.frame[len(f.frame)-1]++
			w.handBytes(clientSide, 1, f.frame)
		}
	}
	w.wantsEnd(number, 0, api.Broken)
}

// TestFramesOfNoEnd: with a right sum they may break everything but P1.
func TestFramesOfNoEnd(t *testing.T) {
	source := rand.New(rand.NewSource(22))
	for range 60 {
		w := newWorld(t, 1+source.Intn(8), 4+source.Intn(47), 1+source.Intn(16))
		w.connect()
		w.publish("ticks", "1", "2", "3")
		w.client.Subscribe("ticks", "")
		w.client.Call("name", "1")
		var seen [][]byte
		for range 200 {
			at := source.Intn(2)
			x := w.sides[at]
			switch source.Intn(5) {
			case 0:
				x.Tick()
			case 1:
				w.server.Publish("ticks", "4")
				w.client.Subscribe("ticks", "ticks@"+strconv.Itoa(source.Intn(5)))
			case 2:
				w.client.Call("name", "2")
				w.client.Call("add", "{x:1,y:2}")
				q, _ := w.server.Next()
				w.server.Reply(q.Id, "3")
				w.server.Reply(q.Id, `"3"`)
			}
			for _, frame := range x.Out() {
				seen = append(seen, frame)
				w.sides[1-at].Receive(1, frame)
			}
			x.Receive(1, madeUpFrame(source, seen))
			for number := range 10 {
				w.client.Poll(number)
				w.client.Answer(number)
			}
		}
	}
}

// madeUpFrame is of random bytes, or of those of a frame with some changed.
func madeUpFrame(source *rand.Rand, seen [][]byte) []byte {
	payload := randomBytes(source, 1+source.Intn(api.MaxFrame))
	if len(seen) > 0 && source.Intn(4) > 0 {
		frame := seen[source.Intn(len(seen))]
		payload = spoiled(source, frame[1:len(frame)-4], []byte{0, 1, 2, 3, 4, 5, 6, 7, 8, 9, 10, 11, 12, 13, 127, 128, 255})
	}
	if len(payload) == 0 {
		payload = []byte{byte(source.Intn(16))}
	}
	if source.Intn(3) == 0 {
		payload[0] = byte(source.Intn(16))
	}
	if len(payload) > 12 && source.Intn(3) == 0 {
		copy(payload[source.Intn(3):], []byte{255, 255, 255, 255, 255, 255, 255, 255, 255, 1})
	}
	return framed(payload[:min(len(payload), api.MaxFrame)])
}

// TestEndsThatNoCallMade: no call panics at them, and none says that it worked.
func TestEndsThatNoCallMade(t *testing.T) {
	for _, s := range []*courier.Server{nil, {}} {
		s.Tick()
		s.Restart()
		s.Tick()
		question, ok := s.Next()
		answers := []api.Errno{s.Up(1), s.Down(1), s.Receive(1, nil), s.Publish("a", "1"), s.Finish("a"), s.Reply(0, "1"), s.Up(math.MaxInt)}
		want := []api.Errno{api.ErrConn, api.ErrConn, api.ErrConn, api.ErrTopic, api.ErrTopic, api.ErrCall, api.ErrConn}
		if !slices.Equal(answers, want) || ok || question != (api.Question{}) || s.Out() != nil {
			t.Errorf("P1: a server that NewServer did not make answers %v, want %v", answers, want)
		}
	}
	for _, c := range []*courier.Client{nil, {}} {
		c.Tick()
		stream, noTopic := c.Subscribe("a", "")
		event, noStream := c.Poll(0)
		call, noCall := c.Call("a", "1")
		answer, noAnswer := c.Answer(0)
		answers := []api.Errno{c.Up(1), c.Down(1), c.Receive(1, nil), noTopic, noStream, noCall, noAnswer}
		want := []api.Errno{api.ErrConn, api.ErrConn, api.ErrConn, api.ErrTopic, api.ErrStream, api.ErrCall, api.ErrStream}
		if !slices.Equal(answers, want) || stream != 0 || call != 0 || event != (api.Event{}) || answer != (api.Event{}) || c.Out() != nil {
			t.Errorf("P1: a client that NewClient did not make answers %v, want %v", answers, want)
		}
	}
}

// TestErrorsOfTopics: each error of Publish and Finish, and which comes first.
func TestErrorsOfTopics(t *testing.T) {
	w := newWorld(t, 2, 10, 4)
	long, deep := strings.Repeat("1", api.MaxText+1), `"`+strings.Repeat("a", api.MaxValue+1)+`"`
	for _, c := range []struct {
		topic, value string
		want         api.Errno
	}{
		{"nothing", "1", api.ErrTopic}, {"", "1", api.ErrTopic}, {"add", "1", api.ErrTopic}, {"point", "1", api.ErrTopic}, {"color", "red", api.ErrTopic}, {"Ticks", "1", api.ErrTopic}, {"ticks ", "1", api.ErrTopic}, {"ticks@1", "1", api.ErrTopic}, {"nothing", long, api.ErrTopic}, {"nothing", "?", api.ErrTopic},
		{"ticks", long, api.ErrLong}, {"words", deep, api.ErrLong}, {"words", deep + "x", api.ErrValue}, {"ticks", "", api.ErrValue}, {"ticks", "true", api.ErrValue}, {"ticks", "01", api.ErrValue}, {"ticks", "9223372036854775808", api.ErrValue}, {"marks", "{x:1}", api.ErrValue}, {"hues", "blue", api.ErrValue}, {"words", "a", api.ErrValue},
	} {
		w.is("P9: Publish("+c.topic+")", w.server.Publish(c.topic, c.value), c.want)
		if c.want == api.ErrTopic {
			w.is("P9: Finish("+c.topic+")", w.server.Finish(c.topic), api.ErrTopic)
		}
	}
	// What was refused is no value: the positions begin at 1.
	number := w.subscribe("ticks", 0)
	w.publish("ticks", "-9223372036854775808")
	w.finish("ticks")
	w.publish("words", `"`+strings.Repeat(`\00`, api.MaxValue)+`"`)
	for _, value := range []string{"1", "?", long, ""} {
		w.is("P9: Publish behind Finish", w.server.Publish("ticks", value), api.ErrClosed)
	}
	w.is("P9: Finish behind Finish", w.server.Finish("ticks"), api.ErrClosed)
	w.settle()
	w.wants(number, 1, true)
}

// TestErrorsOfStreams: each error of Subscribe and Poll, and which comes first.
func TestErrorsOfStreams(t *testing.T) {
	w := newWorld(t, 2, 10, 4)
	refused := func(topic, cursor string, want api.Errno) {
		t.Helper()
		if number, e := w.client.Subscribe(topic, cursor); number != 0 || e != want {
			t.Errorf("P10: Subscribe(%q, %q) = %d, %d, want %d", topic, cursor, number, e, want)
		}
	}
	refuse := func() {
		t.Helper()
		for _, topic := range []string{"nothing", "", "add", "point", "color", "int", "Ticks", "ticks ", "tick"} {
			for _, cursor := range []string{"", "?", topic + "@1"} {
				refused(topic, cursor, api.ErrTopic)
			}
		}
		for _, cursor := range []string{
			"ticks", "ticks@", "@", "@1", "1", "marks@1", "ticks@marks@1", "ticks@ticks@1", "Ticks@1", "ticks@01", "ticks@00", "ticks@-1", "ticks@-0", "ticks@+1", "ticks@1 ", " ticks@1", "ticks @1", "ticks@ 1", "ticks@1.0", "ticks@1e3", "ticks@0x1", "ticks@1_0",
			"ticks@a", "ticks@1000000000", "ticks@9999999999", "ticks@18446744073709551616", "ticks@18446744073709551617", "ticks@000000001", "ticks@\xd9\xa1", "ticks@1\x00", " ", "ticks@" + strings.Repeat("9", 1<<20),
		} {
			refused("ticks", cursor, api.ErrCursor)
		}
	}
	noStream := func(numbers ...int) {
		t.Helper()
		for _, number := range numbers {
			if event, e := w.client.Poll(number); e != api.ErrStream || event != (api.Event{}) {
				t.Errorf("P10: Poll(%d) = %v, %d", number, event, e)
			}
		}
	}
	refuse()
	noStream(math.MinInt, -1, 0, 1, math.MaxInt)
	w.subscribe("ticks", 0)
	noStream(math.MinInt, -1, 1, 2, 1<<32, math.MaxInt)
	w.subscribe("ticks", 999999999)
	// ErrFull is the last.
	refuse()
	refused("ticks", "", api.ErrFull)
	refused("ticks", "ticks@0", api.ErrFull)
	noStream(-1, 2)
	w.settle()
	w.wants(0, 0, false)
	w.wants(1, 0, true)
	noStream(-1, 2)
	if number := w.subscribe("ticks", 0); number != 2 {
		t.Errorf("P10: the third stream has the number %d", number)
	}
}
