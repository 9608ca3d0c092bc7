package courier_test

import (
	"bytes"
	"math"
	"slices"
	"strings"
	"testing"

	"courier/api"
	"courier/courier"
)

// ship hands in all that comes out of a side.
func (w *world) ship(at int) {
	w.t.Helper()
	for _, f := range w.out(at) {
		w.hand(f)
	}
}

// meet is a round up to the Polls.
func (w *world) meet() {
	w.t.Helper()
	w.tick(clientSide)
	w.tick(serverSide)
	w.exchange(never)
}

// TestCallExample is the document's, step by step.
func TestCallExample(t *testing.T) {
	config := api.Config{Window: 2, Deadline: 10, Retain: 4}
	server, _ := courier.NewServer(exampleSchema, config)
	client, _ := courier.NewClient(exampleSchema, config, 1)
	client.Up(1)
	server.Up(1)
	if number, e := client.Call("add", "{x:1,y:2,more:[]}"); number != 0 || e != api.OK {
		t.Fatalf("P12: Call = %d, %d", number, e)
	}
	if q, ok := server.Next(); ok || q != (api.Question{}) {
		t.Errorf("P12: ahead of all frames Next gives %v, %v", q, ok)
	}
	swap(client, server, 1, 1)
	if q, ok := server.Next(); !ok || q != (api.Question{Id: 0, Name: "add", Value: "{x:1,y:2,more:[]}"}) {
		t.Errorf("P12: Next gives %v, %v", q, ok)
	}
	if q, ok := server.Next(); ok || q != (api.Question{}) {
		t.Errorf("P12: behind the only question Next gives %v, %v", q, ok)
	}
	swap(client, server, 1, 3)
	if event, e := client.Answer(0); e != api.OK || event != (api.Event{}) {
		t.Errorf("P12: ahead of Reply Answer gives %v, %d", event, e)
	}
	if e := server.Reply(0, "3"); e != api.OK {
		t.Errorf("P12: Reply = %d", e)
	}
	if event, e := client.Answer(0); e != api.OK || event != (api.Event{}) {
		t.Errorf("P12: ahead of all frames Answer gives %v, %d", event, e)
	}
	swap(client, server, 1, 1)
	for _, want := range []api.Event{{Kind: api.Value, Value: "3"}, {}, {}} {
		if event, e := client.Answer(0); e != api.OK || event != want {
			t.Errorf("P12: Answer gives %v, %d, want %v", event, e, want)
		}
	}
}

// pointOf is a point of so many bytes, 8 and above.
func pointOf(size int) string {
	return `{x:1,y:1,tag:"` + strings.Repeat("a", size-8) + `"}`
}

// TestErrorsOfCall: each error of Call, and which comes first.
func TestErrorsOfCall(t *testing.T) {
	w := newWorld(t, 2, 10, 4)
	long, deep := strings.Repeat("1", api.MaxText+1), pointOf(api.MaxValue+1)
	refused := func(name, value string, want api.Errno) {
		t.Helper()
		if number, e := w.client.Call(name, value); number != 0 || e != want {
			t.Errorf("P12: Call(%q, %.30q) = %d, %d, want %d", name, value, number, e, want)
		}
	}
	refuse := func() {
		t.Helper()
		for _, name := range []string{"", "nothing", "ticks", "marks", "point", "color", "int", "call", "Add", "add ", " add", "ad", "addd", "add\x00", "x", long} {
			for _, value := range []string{"{x:1,y:2}", "1", "", "?", long, deep} {
				refused(name, value, api.ErrCall)
			}
		}
		for _, value := range []string{"", "?", "1", "{}", "{x:1}", "{y:1,x:1}", "{x:1,y:2} ", `{x:1,y:2,tag:a}`, deep + "x", "{x:1,y:9223372036854775808}"} {
			refused("add", value, api.ErrValue)
		}
		for _, value := range []string{"true", "01", "-0", "+1", `"1"`, "9223372036854775808", "-9223372036854775809", "{x:1,y:2}", strings.Repeat("1", api.MaxText)} {
			refused("name", value, api.ErrValue)
		}
		for _, value := range []string{long, "{" + long, deep, pointOf(api.MaxText - 20)} {
			refused("add", value, api.ErrLong)
		}
		refused("name", long, api.ErrLong)
	}
	refuse()
	w.call("add")
	refuse()
	w.call("name")
	// ErrFull is the last.
	refuse()
	refused("add", pointOf(api.MaxValue), api.ErrFull)
	refused("name", "1", api.ErrFull)
	// What was refused has not come, and has no number.
	w.settle()
	if w.call("name") != 2 || len(w.given) != 2 {
		t.Errorf("P12: of two calls there are %d questions", len(w.given))
	}
}

// TestErrorsOfAnswer: there is no call but those that were made.
func TestErrorsOfAnswer(t *testing.T) {
	w := newWorld(t, 3, 10, 4)
	refuse := func(numbers ...int) {
		t.Helper()
		for _, number := range numbers {
			if event, e := w.client.Answer(number); e != api.ErrStream || event != (api.Event{}) {
				t.Errorf("P12: Answer(%d) = %v, %d", number, event, e)
			}
		}
	}
	refuse(math.MinInt, -1, 0, 1, 1<<32, math.MaxInt)
	w.subscribe("ticks", 0)
	refuse(math.MinInt, -1, 0, 1, math.MaxInt)
	w.call("name")
	w.wantsAnswer(0, api.None)
	refuse(math.MinInt, -1, 1, 2, 1<<32, math.MaxInt)
	w.settle()
	w.wantsAnswer(0, api.None)
	refuse(-1, 1)
	if event, e := w.client.Poll(1); e != api.ErrStream || event != (api.Event{}) {
		t.Errorf("P10: a call is no stream: Poll gives %v, %d", event, e)
	}
}

// TestErrorsOfReply: each error of Reply, and which comes first.
func TestErrorsOfReply(t *testing.T) {
	w := newWorld(t, 3, 10, 4)
	long, deep := strings.Repeat("1", api.MaxText+1), `"`+strings.Repeat("a", api.MaxValue+1)+`"`
	refused := func(id int, value string, want api.Errno) {
		t.Helper()
		if e := w.server.Reply(id, value); e != want {
			t.Errorf("P12: Reply(%d, %.30q) = %d, want %d", id, value, e, want)
		}
	}
	none := func(ids ...int) {
		t.Helper()
		for _, id := range ids {
			for _, value := range []string{"1", `"a"`, "", "?", long, deep} {
				refused(id, value, api.ErrCall)
			}
		}
	}
	none(math.MinInt, -1, 0, 1, 1<<32, math.MaxInt)
	name, add := w.call("name"), w.call("add")
	w.connect()
	w.meet()
	// They have come, but Next has not given them.
	none(math.MinInt, -1, 0, 1, 2, math.MaxInt)
	if !w.next() {
		t.Fatalf("P12: no question comes")
	}
	none(-1, 1, 2, 1<<32)
	for _, value := range []string{"", "1", "a", `"a`, `"\0A"`, "{x:1,y:2}", deep + "x", strings.Repeat("1", api.MaxText)} {
		refused(0, value, api.ErrValue)
	}
	refused(0, long, api.ErrLong)
	refused(0, deep, api.ErrLong)
	w.nexts(1)
	for _, value := range []string{"", "?", `"a"`, "{x:1,y:2}", "true", "01", "9223372036854775808"} {
		refused(1, value, api.ErrValue)
	}
	refused(1, long, api.ErrLong)
	none(2)
	// What was refused is no answer.
	w.meet()
	w.wantsAnswer(name, api.None)
	w.wantsAnswer(add, api.None)
	w.reply(1)
	none(1, 2)
	w.reply(0)
	none(0, 1, 2)
	w.meet()
	w.wantsAnswer(name, api.Value)
	w.wantsAnswer(add, api.Value)
	none(0, 1, 2)
}

// TestCallsOfAllTypes: questions and answers come as they were written, the
// longest ones too, with the longest name and token.
func TestCallsOfAllTypes(t *testing.T) {
	schema := "message m { 1 a opt text 99 b list bool } enum e { x y } stream s text call abcdefghijkl text text call b bool e call e e m call m m bool call i int int"
	long := `"` + strings.Repeat(`\ff`, api.MaxValue) + `"`
	config := api.Config{Window: 1, Deadline: 10, Retain: 4}
	for _, token := range []uint64{0, 127, 1 << 63, math.MaxUint64} {
		server, _ := courier.NewServer(schema, config)
		client, _ := courier.NewClient(schema, config, token)
		client.Up(-5)
		server.Up(-5)
		for number, c := range [][3]string{
			{"abcdefghijkl", long, long}, {"abcdefghijkl", `""`, `""`}, {"abcdefghijkl", `" "`, `"abcdefghijkl x"`}, {"abcdefghijkl", `"\00 \22\5c"`, `"\00"`},
			{"b", "true", "y"}, {"b", "false", "x"}, {"e", "y", `{a:"",b:[]}`}, {"e", "x", "{b:[true,false]}"}, {"m", `{a:" ",b:[true]}`, "true"}, {"m", "{b:[]}", "false"},
			{"i", "-9223372036854775808", "9223372036854775807"}, {"i", "9223372036854775807", "-9223372036854775808"}, {"i", "0", "0"}, {"i", "-1", "16"},
		} {
			if got, e := client.Call(c[0], c[1]); got != number || e != api.OK {
				t.Fatalf("P12: Call(%s, %s) = %d, %d", c[0], c[1], got, e)
			}
			swap(client, server, -5, 1)
			if q, ok := server.Next(); !ok || q != (api.Question{Id: number, Name: c[0], Value: c[1]}) {
				t.Fatalf("P12: Next gives %v, %v, want %v", q, ok, c)
			}
			if e := server.Reply(number, c[2]); e != api.OK {
				t.Fatalf("P12: Reply(%s) = %d", c[2], e)
			}
			swap(client, server, -5, 1)
			if event, e := client.Answer(number); e != api.OK || event != (api.Event{Kind: api.Value, Value: c[2]}) {
				t.Fatalf("P12: Answer gives %v, %d, want %v", event, e, c)
			}
		}
	}
}

// TestWindowOfCalls: so many may not have ended, whatever has come of them, as
// long as Answer has not said so.
func TestWindowOfCalls(t *testing.T) {
	for window := 1; window <= api.MaxWindow; window++ {
		w := newWorld(t, window, 10, 4)
		w.connect()
		for range window {
			w.call("name")
		}
		w.refusesCalls()
		w.meet()
		// They have come.
		w.refusesCalls()
		w.nexts(window)
		w.refusesCalls()
		w.reply(0)
		w.refusesCalls()
		w.meet()
		// An answer has come.
		w.refusesCalls()
		w.wantsAnswer(0, api.Value)
		w.asked = 0
		w.call("name")
		w.refusesCalls()
		w.replyAll()
		w.meet()
		for number := 1; number < window; number++ {
			w.refusesCalls()
			w.wantsAnswer(number, api.Value)
			w.asked = 0
			w.call("add")
		}
		w.refusesCalls()
		// Those that broke count till Answer says so, too.
		w.restart()
		w.meet()
		w.asked = 0
		for number := window; number < 2*window; number++ {
			w.refusesCalls()
			w.wantsAnswer(number, api.Broken)
			w.call("name")
		}
		w.refusesCalls()
		w.rounds(2)
		w.answerAll()
		w.asked = 0
		for range window {
			w.call("name")
		}
	}
}

// TestWindowOfBoth: so many subscriptions and calls together may not have come to
// the server, as far as the client knows.
func TestWindowOfBoth(t *testing.T) {
	for window := 1; window <= api.MaxWindow; window++ {
		for calls := range window + 1 {
			w := newWorld(t, window, 10, 4)
			w.finish("hues")
			w.finish("ticks")
			fill := func() {
				t.Helper()
				for n := range window {
					if n < calls {
						w.call("name")
					} else {
						w.subscribe("ticks", 0)
					}
				}
			}
			full := func() {
				t.Helper()
				w.refusesCalls()
				w.refusesStreams()
			}
			fill()
			full()
			w.ticks(clientSide, 30)
			full()
			w.settle()
			// With a session, over a connection that loses everything.
			fill()
			for range 3 {
				w.round(always)
				full()
			}
			// They come to the server, but the client does not know.
			w.tick(clientSide)
			w.ship(clientSide)
			w.out(serverSide)
			full()
			// It is told: calls that have come leave room for streams, and the other
			// way round.
			w.meet()
			w.pollAll()
			w.asked = 0
			w.subscribe("hues", 0)
			if calls < window && window > 1 {
				w.call("add")
			}
			w.settle()
			if len(w.open()) != 0 {
				t.Errorf("P14: %d streams of finished topics have not ended", len(w.open()))
			}
		}
	}
}

// TestCallsBesideMaxStreams: Call answers ErrFull where Subscribe does.
func TestCallsBesideMaxStreams(t *testing.T) {
	w := newWorld(t, api.MaxWindow, 10, 4)
	w.connect()
	for range api.MaxStreams - 1 {
		w.subscribe("ticks", 0)
	}
	w.calm()
	ahead := w.call("name")
	w.subscribe("ticks", 0)
	w.refusesCalls()
	w.calm()
	w.refusesCalls()
	w.refusesStreams()
	// The call that was asked in time is not hindered.
	if !w.calls[ahead].ended || w.ends[api.Value] != 1 {
		t.Errorf("P12: a call beside %d streams gives %v", api.MaxStreams, w.ends)
	}
	w.finish("ticks")
	w.meet()
	w.refusesCalls()
	w.wantsEnd(3, 0, api.Closed)
	w.call("name")
	w.calm()
}

// TestOrderOfQuestions: they come as they were asked, whenever the connection is
// there, with ids that Restart does not change.
func TestOrderOfQuestions(t *testing.T) {
	w := newWorld(t, 4, 50, 4)
	for _, name := range []string{"name", "add", "add", "name"} {
		w.call(name)
	}
	w.connect()
	w.meet()
	w.nexts(4)
	w.replyAll()
	w.meet()
	w.answerAll()
	w.asked = 0
	// Some with a session, some of them given, and Restart.
	w.call("add")
	w.call("name")
	w.meet()
	if !w.next() {
		t.Fatalf("P12: no question comes")
	}
	w.restart()
	w.nexts(0)
	w.meet()
	w.nexts(0)
	w.answerAll()
	w.asked = 0
	for range 3 {
		w.call("name")
	}
	w.meet()
	w.restart()
	w.meet()
	w.nexts(0)
	w.answerAll()
	w.asked = 0
	w.call("add")
	w.meet()
	w.nexts(1)
	if want := []int{0, 1, 2, 3, 4, 9}; !slices.Equal(w.given, want) {
		t.Errorf("P12: Next gave the questions of the calls %v, want %v", w.given, want)
	}
}

// TestRepliesInAnyOrder: each goes to the call that asked.
func TestRepliesInAnyOrder(t *testing.T) {
	for _, order := range [][]int{{0, 1, 2, 3}, {3, 2, 1, 0}, {2, 0, 3, 1}, {1, 3, 0, 2}} {
		for together := range 2 {
			w := newWorld(t, 4, 10, 4)
			w.connect()
			for range 2 {
				w.call("name")
				w.call("add")
			}
			w.meet()
			w.nexts(4)
			for _, id := range order {
				w.reply(id)
				if together == 0 {
					w.meet()
					w.wantsAnswer(id, api.Value)
				}
			}
			w.meet()
			w.answerAll()
			w.answerAll()
			if w.ends[api.Value] != 4 {
				t.Errorf("P12: four calls give %v", w.ends)
			}
		}
	}
}

// TestCallsOnTheirWay: what may happen to frames changes nothing of questions and
// answers.
func TestCallsOnTheirWay(t *testing.T) {
	for name, h := range hurts() {
		t.Run(name, func(t *testing.T) {
			w := newWorld(t, 3, 10, 16)
			w.connect()
			w.subscribe("words", 0)
			for n := range 60 {
				w.tryCall([]string{"name", "add"}[n%2])
				if n%5 == 0 {
					w.publish("words", `"word"`)
				}
				w.hurtRound(h)
				w.pollAll()
				if n%3 == 0 {
					w.nextAll()
				}
				if n%4 == 0 {
					slices.Reverse(w.owed)
					w.replyAll()
				}
				if n%2 == 0 {
					w.answerAll()
				}
			}
			w.calm()
			if len(w.calls) < 20 || len(w.given) != len(w.calls) || w.ends[api.Value] != len(w.calls) || w.counts[api.Value] != 12 {
				t.Errorf("P12: of %d calls %d came, and the events are %v, %v", len(w.calls), len(w.given), w.ends, w.counts)
			}
		})
	}
}

// TestLateCalls keeps each frame back for some rounds, all in a jumble.
func TestLateCalls(t *testing.T) {
	for late := 1; late < 9; late++ {
		w := newWorld(t, 4, 40, 16)
		w.connect()
		byRound := map[int][]flight{}
		for n := range 200 {
			w.tryCall("name")
			for _, at := range []int{clientSide, serverSide} {
				w.tick(at)
				for i, f := range w.out(at) {
					when := n + 1 + (i*7+n*3)%late
					byRound[when] = append(byRound[when], f)
				}
			}
			for i := range byRound[n] {
				w.hand(byRound[n][len(byRound[n])-1-i])
			}
			delete(byRound, n)
			w.nextAll()
			w.replyAll()
			w.answerAll()
		}
		w.calm()
		if len(w.calls) < 20 || len(w.given) != len(w.calls) || w.ends[api.Value] != len(w.calls) {
			t.Errorf("P12: of %d calls %d came, and the events are %v", len(w.calls), len(w.given), w.ends)
		}
	}
}

// TestCallsOverConnections: these go down and come up anew, at one end or at both,
// at each point of a call's way; it goes on.
func TestCallsOverConnections(t *testing.T) {
	breaks := []func(w *world){
		func(w *world) { w.downAt(clientSide); w.downAt(serverSide) },
		func(w *world) { w.downAt(clientSide) },
		func(w *world) { w.downAt(serverSide) },
		func(w *world) { w.upAt(clientSide, w.conn[clientSide]+1) },
		func(w *world) { w.upAt(serverSide, w.conn[serverSide]+1) },
		func(w *world) { w.connect() },
	}
	for _, cut := range breaks {
		for isBegun := range 2 {
			w := newWorld(t, 2, 50, 4)
			again := func() {
				t.Helper()
				flights := slices.Concat(w.out(clientSide), w.out(serverSide))
				cut(w)
				// What was sent over the earlier connection comes to nothing.
				for _, f := range flights {
					w.hand(f)
				}
				w.ticks(clientSide, 3)
				w.ticks(serverSide, 3)
				w.connect()
				for _, f := range flights {
					w.hand(f)
				}
			}
			w.connect()
			if isBegun == 1 {
				w.rounds(1)
			}
			number := w.call("name")
			again()
			w.ship(clientSide)
			again()
			w.exchange(never)
			again()
			w.nexts(1)
			again()
			w.reply(0)
			again()
			w.exchange(never)
			again()
			w.wantsAnswer(number, api.Value)
			again()
			w.rounds(3)
			w.wantsAnswer(number, api.None)
			w.nexts(0)
		}
	}
}

// TestCallWithoutConnection: it waits for the first one, or for the next one.
func TestCallWithoutConnection(t *testing.T) {
	w := newWorld(t, 2, 20, 4)
	first := w.call("name")
	w.ticks(clientSide, 100)
	w.wantsAnswer(first, api.None)
	w.settle()
	w.downAt(clientSide)
	second := w.call("add")
	w.ticks(clientSide, 10)
	w.downAt(serverSide)
	third := w.call("add")
	w.mayBreak = false
	w.settle()
	for _, number := range []int{first, second, third} {
		w.wantsAnswer(number, api.None)
	}
	if w.ends[api.Value] != 3 {
		t.Errorf("P13: calls without a connection give %v", w.ends)
	}
}

// TestReplyWithoutConnection: the answer goes over the next one, when the client
// has spoken over it.
func TestReplyWithoutConnection(t *testing.T) {
	w := newWorld(t, 2, 20, 4)
	w.connect()
	number := w.call("name")
	w.meet()
	w.nexts(1)
	w.downAt(serverSide)
	w.downAt(clientSide)
	w.reply(0)
	w.upAt(serverSide, 2)
	w.ticks(serverSide, 3)
	if w.hears("answer 0") {
		t.Errorf("P8: an answer goes out to nobody")
	}
	w.upAt(clientSide, 2)
	w.exchange(never)
	w.wantsAnswer(number, api.Value)
	// With a connection, over which the client has not spoken.
	number = w.call("name")
	w.meet()
	w.nexts(1)
	w.upAt(serverSide, 3)
	w.reply(1)
	if w.hears("answer 1") {
		t.Errorf("P8: an answer goes out to nobody")
	}
	w.upAt(clientSide, 3)
	w.exchange(never)
	w.wantsAnswer(number, api.Value)
}

// TestAtOnceCalls: a question comes in the first round, and its answer in the
// next.
func TestAtOnceCalls(t *testing.T) {
	w := newWorld(t, 2, 20, 4)
	w.call("add")
	w.connect()
	w.exchange(never)
	w.nexts(1)
	w.reply(0)
	if times := w.exchange(never); times > 3 {
		t.Errorf("P14: an answer takes %d Outs", times)
	}
	w.wantsAnswer(0, api.Value)
	w.call("name")
	w.exchange(never)
	w.nexts(1)
	w.rounds(2)
	if w.openCalls() != 0 {
		t.Errorf("P14: behind two rounds a call has not ended")
	}
}

// TestRestartOfQuestions: at each point of a call's way, Restart ends it, but one
// whose answer has come. What was given may be replied to once, to no avail.
func TestRestartOfQuestions(t *testing.T) {
	w := newWorld(t, 8, 10, 4)
	w.connect()
	answered, under, given, waiting := w.call("name"), w.call("name"), w.call("add"), w.call("name")
	w.meet()
	for range 3 {
		if !w.next() {
			t.Fatalf("P12: no question comes")
		}
	}
	w.reply(0)
	w.exchange(never)
	w.reply(1)
	unsent := w.call("add")
	w.restart()
	w.nexts(0)
	w.meet()
	w.nexts(0)
	w.wantsAnswer(answered, api.Value)
	for _, number := range []int{under, given, waiting, unsent} {
		w.wantsAnswer(number, api.Broken)
		w.wantsAnswer(number, api.None)
	}
	w.mayBreak, w.asked = false, 0
	// The calls of the next session have the numbers of requests that those had.
	for range 5 {
		w.call("name")
	}
	w.meet()
	w.is("P12: Reply", w.server.Reply(2, `"a"`), api.ErrValue)
	w.reply(2)
	w.is("P12: Reply", w.server.Reply(3, `"a"`), api.ErrCall)
	w.meet()
	w.answerAll()
	if w.openCalls() != 5 {
		t.Errorf("P12: an answer came to the wrong call")
	}
	w.nexts(5)
	if w.owed[0] != 3 {
		t.Errorf("P12: behind Restart the ids go on with %d", w.owed[0])
	}
	w.replyAll()
	w.rounds(1)
	if w.openCalls() != 0 || w.ends[api.Value] != 6 {
		t.Errorf("P12: the events are %v", w.ends)
	}
}

// TestRestartOverLateCalls: all that was said in sessions that are gone, handed in
// again over the connection that stays, brings no question and no answer.
func TestRestartOverLateCalls(t *testing.T) {
	w := newWorld(t, 8, 50, 16)
	w.connect()
	var all []flight
	listen := func() {
		t.Helper()
		w.tick(clientSide)
		w.tick(serverSide)
		for range 6 {
			for _, at := range []int{clientSide, serverSide} {
				for _, f := range w.out(at) {
					all = append(all, f)
					w.hand(f)
				}
			}
		}
	}
	for n := range 6 {
		for range 3 {
			w.call("name")
		}
		listen()
		if n%3 > 0 {
			w.nexts(3)
			w.replyAll()
		}
		if n%3 > 1 {
			listen()
		}
		w.restart()
		if n%2 == 0 {
			// The frames of the session come again ahead of the next one.
			for _, f := range all {
				w.hand(f)
			}
			w.nexts(0)
		}
		listen()
		w.nexts(0)
		w.answerAll()
		w.asked = 0
	}
	if w.openCalls() != 0 {
		t.Fatalf("P13: behind Restart %d calls have not ended", w.openCalls())
	}
	for range 3 {
		w.call("name")
	}
	listen()
	w.mayBreak = false
	for i := range all {
		w.hand(all[i])
		w.hand(all[len(all)-1-i])
		w.out(i % 2)
	}
	w.nexts(3)
	w.answerAll()
	w.replyAll()
	w.meet()
	before := w.ends[api.Value]
	w.answerAll()
	if got := w.ends[api.Value] - before; got != 3 {
		t.Errorf("P12: of three calls %d are answered", got)
	}
}

// stages are calls at each point of their way: not come, come, given, replied to
// and answered.
func (w *world) stages() []int {
	w.t.Helper()
	answered, under, given, waiting := w.call("name"), w.call("add"), w.call("name"), w.call("add")
	w.meet()
	for range 3 {
		if !w.next() {
			w.t.Fatalf("P12: no question comes")
		}
	}
	w.reply(0)
	w.exchange(never)
	w.reply(1)
	w.out(serverSide)
	return []int{w.call("name"), waiting, given, under, answered}
}

// TestCallsAtTheDeadlineOfTheClient: so many ticks without a frame end all calls
// but one whose answer has come; one tick less ends none.
func TestCallsAtTheDeadlineOfTheClient(t *testing.T) {
	for _, deadline := range []int{api.MinDeadline, 7, api.MaxDeadline} {
		for _, isUp := range []bool{true, false} {
			w := newWorld(t, 5, deadline, 4)
			w.connect()
			w.rounds(1)
			numbers := w.stages()
			if !isUp {
				w.downAt(clientSide)
			}
			w.ticks(clientSide, deadline-1)
			w.out(clientSide)
			for _, number := range numbers[:4] {
				w.wantsAnswer(number, api.None)
			}
			w.tick(clientSide)
			for _, number := range numbers[:4] {
				w.wantsAnswer(number, api.Broken)
				w.wantsAnswer(number, api.None)
			}
			w.wantsAnswer(numbers[4], api.Value)
			// What has come still is a question; what is replied now goes to nobody.
			w.nexts(1)
			next := w.call("add")
			w.settle()
			for _, number := range append(numbers, next) {
				w.wantsAnswer(number, api.None)
			}
			if w.ends[api.Value] != 2 || w.ends[api.Broken] != 4 || len(w.given) != 5 {
				t.Errorf("P12: the events are %v, with %d questions", w.ends, len(w.given))
			}
		}
	}
}

// TestCallsAtTheDeadlineOfTheServer: so many ticks without a frame end all calls
// but one whose answer has come, as soon as the client is told; with one tick less
// all go on.
func TestCallsAtTheDeadlineOfTheServer(t *testing.T) {
	for _, deadline := range []int{api.MinDeadline, 7, api.MaxDeadline} {
		for less := range 2 {
			w := newWorld(t, 5, deadline, 4)
			w.connect()
			w.rounds(1)
			numbers := w.stages()
			w.out(clientSide)
			w.ticks(serverSide, deadline-less)
			w.out(serverSide)
			// What has come still is a question.
			w.nexts(1)
			w.tick(clientSide)
			w.exchange(never)
			w.nexts(less)
			w.replyAll()
			w.meet()
			for i, number := range numbers {
				if less == 1 || i == 4 {
					w.wantsAnswer(number, api.Value)
				} else {
					w.wantsAnswer(number, api.Broken)
				}
				w.wantsAnswer(number, api.None)
			}
			w.mayBreak, w.asked = false, 0
			for range 4 {
				w.call("name")
			}
			w.rounds(2)
			if w.openCalls() != 0 {
				t.Errorf("P14: %d calls have not ended", w.openCalls())
			}
		}
	}
}

// TestReplyInTheNextSession: an answer to a question of an earlier session goes to
// no call of the next one.
func TestReplyInTheNextSession(t *testing.T) {
	w := newWorld(t, 2, 5, 4)
	w.connect()
	old := w.call("name")
	w.meet()
	w.nexts(1)
	w.ticks(clientSide, 5)
	w.wantsAnswer(old, api.Broken)
	w.asked = 0
	number := w.call("name")
	w.settleIn()
	w.reply(0)
	w.meet()
	w.wantsAnswer(number, api.None)
	w.nexts(1)
	w.reply(1)
	w.meet()
	w.wantsAnswer(number, api.Value)
	w.wantsAnswer(old, api.None)
}

// TestEndsThatNobodyAskedFor: calls whose end Answer has not given are not in the
// way of those of the next session.
func TestEndsThatNobodyAskedFor(t *testing.T) {
	w := newWorld(t, 4, 50, 4)
	w.connect()
	w.call("name")
	w.call("add")
	w.meet()
	w.nexts(2)
	w.reply(1)
	w.meet()
	w.restart()
	w.settleIn()
	w.asked = 0
	w.call("add")
	w.call("name")
	w.meet()
	w.nexts(2)
	w.replyAll()
	w.meet()
	w.mayBreak = true
	for number, kind := range []int{api.Broken, api.Value, api.Value, api.Value} {
		w.wantsAnswer(number, kind)
	}
}

// settleIn lets the next session begin, without Next and Answer.
func (w *world) settleIn() {
	w.t.Helper()
	for range 3 {
		w.meet()
	}
	w.mayBreak = false
}

// TestAnswerSaysThatItCame: by an answer the client knows that the question has
// come, and by a value that the subscription has.
func TestAnswerSaysThatItCame(t *testing.T) {
	w := newWorld(t, 1, 50, 4)
	w.connect()
	w.rounds(1)
	only := func(text string) {
		t.Helper()
		for _, f := range w.out(serverSide) {
			if bytes.Contains(f.frame, []byte(text)) {
				w.hand(f)
			}
		}
	}
	number := w.call("name")
	w.ship(clientSide)
	w.nexts(1)
	w.reply(0)
	w.refusesStreams()
	only("answer 0")
	w.wantsAnswer(number, api.Value)
	w.asked = 0
	w.publish("words", `"first"`)
	w.subscribe("words", 0)
	w.refusesCalls()
	w.ship(clientSide)
	only("first")
	w.asked = 0
	number = w.call("name")
	w.rounds(2)
	if !w.calls[number].ended {
		t.Errorf("P12: a call behind a stream has not ended")
	}
}

// TestAnswerThatIsLost: it is said again till the client has it, and no longer.
func TestAnswerThatIsLost(t *testing.T) {
	w := newWorld(t, 1, 50, 4)
	w.connect()
	number := w.call("name")
	w.meet()
	w.nexts(1)
	w.reply(0)
	for range 5 {
		if !w.hears("answer 0") {
			t.Fatalf("P12: an answer that may be lost does not go out")
		}
		w.tick(serverSide)
	}
	w.exchange(never)
	w.ticks(serverSide, 3)
	if w.hears("answer 0") {
		t.Errorf("an answer goes out that the client is known to have")
	}
	w.wantsAnswer(number, api.Value)
}

// TestManyCalls: those that ended leave nothing behind that is in the way of
// others, nor is anything said of them any more.
func TestManyCalls(t *testing.T) {
	w := newWorld(t, 8, 50, 4)
	w.connect()
	for range 40 {
		for range 8 {
			w.call("name")
		}
		w.rounds(2)
		w.asked = 0
	}
	if len(w.calls) != 320 || w.openCalls() != 0 || w.ends[api.Value] != 320 {
		t.Errorf("P12: %d calls give %v", len(w.calls), w.ends)
	}
	w.rounds(1)
	w.handed = [2]int{}
	w.meet()
	if w.handed[clientSide] > 2 || w.handed[serverSide] > 2 {
		t.Errorf("when nothing is new, %v frames go to and fro", w.handed)
	}
}

// TestQuestionsThatWait: nobody asks for them; sessions come and go.
func TestQuestionsThatWait(t *testing.T) {
	w := newWorld(t, 8, 5, 4)
	for range 10 {
		w.connect()
		for range 8 {
			w.call("name")
		}
		w.settleIn()
		w.ticks(clientSide, 5)
		w.answerAll()
		w.asked = 0
	}
	if w.ends[api.Broken] != 80 {
		t.Errorf("P13: 80 calls give %v", w.ends)
	}
	w.nexts(80)
	w.replyAll()
	w.call("name")
	w.settle()
}

// TestCallsOfClientsOneBehindTheOther: each gets the answers to its own questions,
// also one that comes again in time.
func TestCallsOfClientsOneBehindTheOther(t *testing.T) {
	w := newWorld(t, 2, 10, 4)
	other, _ := courier.NewClient(worldSchema, w.config, 77)
	number := w.call("name")
	w.connect()
	w.meet()
	w.downAt(clientSide)
	other.Up(2)
	w.upAt(serverSide, 2)
	if number, e := other.Call("name", "-7"); number != 0 || e != api.OK {
		t.Fatalf("P12: Call of another client = %d, %d", number, e)
	}
	swap(other, w.server, 2, 2)
	if !w.next() {
		t.Fatalf("P12: the first client's question does not come")
	}
	if q, ok := w.server.Next(); !ok || q != (api.Question{Id: 1, Name: "name", Value: "-7"}) {
		t.Fatalf("P12: of another client Next gives %v, %v", q, ok)
	}
	w.reply(0)
	swap(other, w.server, 2, 2)
	if event, _ := other.Answer(0); event != (api.Event{}) {
		t.Errorf("P12: another client is told %v", event)
	}
	w.is("P12: Reply", w.server.Reply(1, `"yours"`), api.OK)
	other.Down(2)
	w.conn[clientSide] = 2
	w.connect()
	w.meet()
	w.wantsAnswer(number, api.Value)
	w.downAt(clientSide)
	other.Up(4)
	w.upAt(serverSide, 4)
	swap(other, w.server, 4, 1)
	if event, _ := other.Answer(0); event != (api.Event{Kind: api.Value, Value: `"yours"`}) {
		t.Errorf("P12: another client that comes again is told %v", event)
	}
}

// TestCallsApart: what is done to one pair is not to be seen at another one.
func TestCallsApart(t *testing.T) {
	a, b := newWorld(t, 2, 10, 4), newWorld(t, 2, 10, 4)
	for _, w := range []*world{a, b} {
		w.connect()
		w.call("name")
		w.meet()
	}
	a.nexts(1)
	b.is("P12: Reply", b.server.Reply(0, `"a"`), api.ErrCall)
	a.reply(0)
	b.restart()
	b.meet()
	a.meet()
	a.wantsAnswer(0, api.Value)
	b.nexts(0)
	b.wantsAnswer(0, api.Broken)
}

// TestRoundsOfCallsAndStreams: as many of both as may be, at each Window and
// Retain, over and over: what P14 says of Outs is watched by exchange, of rounds by
// calm.
func TestRoundsOfCallsAndStreams(t *testing.T) {
	for window := 1; window <= api.MaxWindow; window++ {
		for _, retain := range []int{1, 3, api.MaxRetain} {
			w := newWorld(t, window, api.MinDeadline, retain)
			w.connect()
			for range api.MaxStreams - 1 {
				w.subscribeSoon("ticks")
			}
			w.rounds(1)
			for range 3 {
				for w.tryCall("name") {
				}
				w.publish("ticks", numbersUpTo(1, retain)...)
				w.calm()
				w.call("add")
				w.calm()
			}
			if w.ends[api.Value] != 3*(window+1) || w.counts[api.Value] != 3*retain*(api.MaxStreams-1) || len(w.open()) != api.MaxStreams-1 {
				t.Errorf("P14: with a Window of %d and %d kept the events are %v, %v", window, retain, w.ends, w.counts)
			}
		}
	}
}

// TestAnswersBesideManyValues: when there is more to say than one Out may give,
// calls end all the same.
func TestAnswersBesideManyValues(t *testing.T) {
	w := newWorld(t, api.MaxWindow, 50, api.MaxRetain)
	w.connect()
	for range api.MaxStreams - 1 {
		w.subscribe("ticks", 0)
	}
	w.calm()
	for range api.MaxWindow {
		w.call("name")
	}
	w.meet()
	w.asked = 0
	w.subscribe("ticks", 0)
	w.meet()
	w.publish("ticks", numbersUpTo(1, api.MaxRetain)...)
	w.ticks(serverSide, 3)
	w.nexts(api.MaxWindow)
	w.replyAll()
	w.rounds(3)
	if w.openCalls() != 0 {
		t.Errorf("P14: behind three rounds %d calls have not ended", w.openCalls())
	}
	w.calm()
}

// TestAnswersBesideUnreadValues: a client that does not poll leaves the server with
// more values to say than one Out may give, for ever. Its calls end all the same.
func TestAnswersBesideUnreadValues(t *testing.T) {
	w := newWorld(t, api.MaxWindow, 50, api.MaxRetain)
	w.connect()
	for range api.MaxStreams - 1 {
		w.subscribe("ticks", 0)
	}
	w.calm()
	for range api.MaxWindow {
		w.call("name")
	}
	w.meet()
	w.asked = 0
	w.subscribe("ticks", 0)
	for n := range 3 {
		w.publish("ticks", numbersUpTo(8*n, 8*n+7)...)
		w.meet()
	}
	w.nexts(api.MaxWindow)
	w.replyAll()
	w.out(serverSide)
	w.meet()
	for number := range api.MaxWindow {
		w.wantsAnswer(number, api.Value)
	}
}

// TestCallsCalmBehindAnything: whatever was ahead, behind the rounds of P14 each
// call has ended, and a Call that may be is OK.
func TestCallsCalmBehindAnything(t *testing.T) {
	for name, ahead := range map[string]func(*world){
		"nothing":                   func(w *world) {},
		"silence":                   func(w *world) { w.ticks(clientSide, 100); w.ticks(serverSide, 100) },
		"silence at the client":     func(w *world) { w.ticks(clientSide, 4) },
		"silence at the server":     func(w *world) { w.ticks(serverSide, 4) },
		"a tick less":               func(w *world) { w.ticks(clientSide, 3); w.ticks(serverSide, 3) },
		"Restart":                   func(w *world) { w.restart() },
		"no connection":             func(w *world) { w.downAt(clientSide); w.downAt(serverSide) },
		"other connections":         func(w *world) { w.upAt(clientSide, 50); w.upAt(serverSide, 40) },
		"frames that are lost":      func(w *world) { w.out(clientSide); w.out(serverSide) },
		"answers that are lost":     func(w *world) { w.ship(clientSide); w.out(serverSide); w.nextAll(); w.replyAll(); w.out(serverSide) },
		"questions that were given": func(w *world) { w.exchange(never); w.nextAll() },
		"Restart behind questions":  func(w *world) { w.exchange(never); w.next(); w.restart() },
		"Restart behind answers":    func(w *world) { w.exchange(never); w.nextAll(); w.replyAll(); w.restart() },
		"Restart behind lost ones":  func(w *world) { w.exchange(never); w.nextAll(); w.replyAll(); w.out(serverSide); w.restart() },
	} {
		t.Run(name, func(t *testing.T) {
			for isBegun := range 2 {
				for window := 1; window <= 3; window++ {
					w := newWorld(t, window, api.MinDeadline, 4)
					w.connect()
					w.rounds(2 * isBegun)
					for w.tryCall("name") {
					}
					ahead(w)
					for range 3 {
						w.settle()
						for range window {
							w.call("add")
						}
						w.refusesCalls()
					}
					w.settle()
					if len(w.calls) != 4*window {
						t.Errorf("P14: there were %d calls", len(w.calls))
					}
				}
			}
		})
	}
}
