package courier_test

import (
	"bytes"
	"slices"
	"strconv"
	"testing"

	"courier/api"
	"courier/courier"
)

const worldSchema = "message point { 1 x int 2 y int 5 tag opt text } enum color { red green } stream ticks int stream marks point stream words text stream hues color call add point int call name int text"

type side interface {
	Up(int) api.Errno
	Down(int) api.Errno
	Tick()
	Receive(int, []byte) api.Errno
	Out() [][]byte
}

const (
	clientSide = iota
	serverSide
)

// flight is a frame on its way.
type flight struct {
	to, conn int
	frame    []byte
}

// record is what the document says of a topic.
type record struct {
	values   []string
	finished bool
}

// reading is what the document says of a stream.
type reading struct {
	topic      string
	begin      int
	given      int
	ended      bool
	mayExpire  bool // k was above what there is, or the value k + 1 not kept, at some time
	mustExpire bool // it was so all the time
}

// asking is what the document says of a call.
type asking struct {
	name, value string
	answer      string // what was replied
	replied     bool
	ended       bool
}

// world is a server and a client, the frames between them, and a ledger of what
// the document lets come out of them: it fails the test at anything else. It is
// blind for what payloads say.
type world struct {
	t        *testing.T
	config   api.Config
	client   *courier.Client
	server   *courier.Server
	sides    [2]side
	conn     [2]int // told last
	up       [2]bool
	quiet    [2]int // ticks since a frame of the other side was handed in
	handed   [2]int // frames
	topics   map[string]*record
	streams  []*reading
	calls    []*asking
	given    []int // the calls that Next gave, by their ids
	owed     []int // the ids that were not replied to
	asked    int   // subscriptions and calls since all was calm
	mayBreak bool  // there was a cause of P11 for all streams and calls since all was calm
	counts   map[int]int
	ends     map[int]int // of calls, by kind
}

func newWorld(t *testing.T, window, deadline, retain int) *world {
	t.Helper()
	c := api.Config{Window: window, Deadline: deadline, Retain: retain}
	server, e := courier.NewServer(worldSchema, c)
	client, f := courier.NewClient(worldSchema, c, 1<<63+5)
	if e != api.OK || f != api.OK || server == nil || client == nil {
		t.Fatalf("P7: NewServer and NewClient with %v answer %d, %d", c, e, f)
	}
	w := &world{t: t, config: c, client: client, server: server, sides: [2]side{client, server}, topics: map[string]*record{}, counts: map[int]int{}, ends: map[int]int{}}
	for _, topic := range []string{"ticks", "marks", "words", "hues"} {
		w.topics[topic] = &record{}
	}
	return w
}

func (w *world) is(what string, e, want api.Errno) {
	w.t.Helper()
	if e != want {
		w.t.Fatalf("%s answers %d, want %d", what, e, want)
	}
}

func (w *world) upAt(at, conn int) {
	w.t.Helper()
	w.is("P8: Up", w.sides[at].Up(conn), api.OK)
	w.conn[at], w.up[at] = conn, true
}

func (w *world) downAt(at int) {
	w.t.Helper()
	w.is("P8: Down", w.sides[at].Down(w.conn[at]), api.OK)
	w.up[at] = false
}

// connect tells both of a new connection.
func (w *world) connect() {
	w.t.Helper()
	conn := max(w.conn[0], w.conn[1]) + 1
	w.upAt(clientSide, conn)
	w.upAt(serverSide, conn)
}

func (w *world) tick(at int) {
	w.sides[at].Tick()
	if w.quiet[at]++; w.quiet[at] >= w.config.Deadline {
		w.mayBreak = true
	}
}

func (w *world) ticks(at, count int) {
	for range count {
		w.tick(at)
	}
}

// out gives copies of what comes out of a side, and writes into what came.
func (w *world) out(at int) []flight {
	w.t.Helper()
	list := w.sides[at].Out()
	if len(list) > api.MaxOut || len(list) > 0 && !w.up[at] {
		w.t.Fatalf("P8: %d frames come out, with a connection: %v", len(list), w.up[at])
	}
	var flights []flight
	for _, frame := range list {
		flights = append(flights, flight{1 - at, w.conn[at], slices.Clone(frame)})
	}
	scribble(list...)
	clear(list[:cap(list)])
	if again := w.sides[at].Out(); len(again) > 0 {
		w.t.Fatalf("P8: of one Out behind the other comes %v", again)
	}
	return flights
}

// hand hands in a frame, in a list with spare room that it spoils then.
func (w *world) hand(f flight) {
	w.t.Helper()
	if e := w.handBytes(f.to, f.conn, f.frame); e == api.OK {
		w.quiet[f.to] = 0
		w.handed[f.to]++
	}
}

func (w *world) handBytes(to, conn int, frame []byte) api.Errno {
	w.t.Helper()
	room := append(slices.Clone(frame), 5, 6, 7, 8, 9)
	before := slices.Clone(room)
	e := w.sides[to].Receive(conn, room[:len(frame)])
	if !bytes.Equal(room, before) {
		w.t.Fatalf("P2: Receive of %v leaves %v", before, room)
	}
	scribble(room)
	want := api.OK
	if !w.up[to] || conn != w.conn[to] {
		want = api.ErrConn
	}
	w.is("P8: Receive", e, want)
	return e
}

// exchange has all frames go to and fro till none comes out, but those that are
// lost, and tells how often both were asked.
func (w *world) exchange(lost func() bool) int {
	w.t.Helper()
	for times := 1; ; times++ {
		count := 0
		for _, at := range []int{clientSide, serverSide} {
			for _, f := range w.out(at) {
				count++
				if !lost() {
					w.hand(f)
				}
			}
		}
		if count == 0 {
			return times
		}
		if times > 50 {
			w.t.Fatalf("P14: frames go on coming out")
		}
	}
}

func never() bool { return false }

func always() bool { return true }

// round is one of P14, with frames lost if need be.
func (w *world) round(lost func() bool) {
	w.t.Helper()
	w.tick(clientSide)
	w.tick(serverSide)
	w.exchange(lost)
	w.pollAll()
	w.nextAll()
	w.replyAll()
	w.answerAll()
}

func (w *world) rounds(count int) {
	w.t.Helper()
	for range count {
		w.handed = [2]int{}
		w.round(never)
		if w.up == [2]bool{true, true} && w.conn[0] == w.conn[1] && (w.handed[0] == 0 || w.handed[1] == 0) {
			w.t.Fatalf("P14: in a round the client is handed %d frames and the server %d", w.handed[0], w.handed[1])
		}
	}
}

// settle is what P14 says of calm: a new connection and so many rounds.
func (w *world) settle() {
	w.t.Helper()
	w.connect()
	w.calm()
}

func (w *world) calm() {
	w.t.Helper()
	count := 20 + len(w.open()) + w.openCalls()
	for _, topic := range w.topics {
		count += len(topic.values) - w.gone(topic)
	}
	w.rounds(count)
	for number, s := range w.streams {
		topic := w.topics[s.topic]
		if !s.ended && (topic.finished || s.begin+s.given != len(topic.values)) {
			w.t.Fatalf("P14: behind %d rounds stream %d from %s@%d on has given %d of %d values (finished: %v)", count, number, s.topic, s.begin, s.given, len(topic.values), topic.finished)
		}
	}
	if w.openCalls() > 0 {
		w.t.Fatalf("P14: behind %d rounds %d of %d calls have not ended, with %d questions given", count, w.openCalls(), len(w.calls), len(w.given))
	}
	w.mayBreak, w.asked = false, 0
}

// open gives the streams that have not ended.
func (w *world) open() []*reading {
	return slices.DeleteFunc(slices.Clone(w.streams), func(s *reading) bool { return s.ended })
}

// gone tells how many values of a topic are not kept any more.
func (w *world) gone(topic *record) int {
	return max(0, len(topic.values)-w.config.Retain)
}

// isOut tells what P11 asks for Expired.
func (w *world) isOut(s *reading) bool {
	topic := w.topics[s.topic]
	return s.begin > len(topic.values) || s.begin < w.gone(topic)
}

func (w *world) publish(topic string, values ...string) {
	w.t.Helper()
	for _, value := range values {
		w.is("P9: Publish", w.server.Publish(topic, value), api.OK)
		w.topics[topic].values = append(w.topics[topic].values, value)
		for _, s := range w.streams {
			isOut := w.isOut(s)
			s.mayExpire, s.mustExpire = s.mayExpire || isOut, s.mustExpire && isOut
		}
	}
}

func (w *world) finish(topic string) {
	w.t.Helper()
	w.is("P9: Finish", w.server.Finish(topic), api.OK)
	w.topics[topic].finished = true
}

// ask subscribes, and holds the answer against the ledger, which does not know
// what the client knows of the server: so it tells whether it was OK.
func (w *world) ask(topic string, position int) bool {
	w.t.Helper()
	cursor := topic + "@" + strconv.Itoa(position)
	number, e := w.client.Subscribe(topic, cursor)
	isFull := len(w.open()) >= api.MaxStreams
	if e == api.ErrFull && number == 0 && (isFull || w.asked >= w.config.Window) {
		return false
	}
	if e != api.OK || number != len(w.streams) || isFull {
		w.t.Fatalf("P10: Subscribe(%s, %s) = %d, %d, with %d streams of which %d have not ended, %d asked lately", topic, cursor, number, e, len(w.streams), len(w.open()), w.asked)
	}
	s := &reading{topic: topic, begin: position}
	s.mayExpire = w.isOut(s)
	s.mustExpire = s.mayExpire
	w.streams = append(w.streams, s)
	w.asked++
	return true
}

func (w *world) subscribe(topic string, position int) int {
	w.t.Helper()
	if !w.ask(topic, position) {
		w.t.Fatalf("P10: Subscribe(%s, %d) answers ErrFull", topic, position)
	}
	return len(w.streams) - 1
}

func (w *world) restart() {
	w.server.Restart()
	w.mayBreak = true
}

// poll gives a stream's next event, which it holds against the ledger.
func (w *world) poll(number int) api.Event {
	w.t.Helper()
	event, e := w.client.Poll(number)
	w.is("P10: Poll", e, api.OK)
	s := w.streams[number]
	if !w.mayCome(s, event) {
		w.t.Fatalf("P10, P11: stream %d of %s from %d on, with %d given of %d (finished: %v, %d gone), gives %v (ended: %v, a cause to break: %v)",
			number, s.topic, s.begin, s.given, len(w.topics[s.topic].values), w.topics[s.topic].finished, w.gone(w.topics[s.topic]), event, s.ended, w.mayBreak)
	}
	switch event.Kind {
	case api.Value:
		s.given++
	case api.Closed, api.Broken, api.Expired:
		s.ended = true
	}
	w.counts[event.Kind]++
	return event
}

func (w *world) mayCome(s *reading, event api.Event) bool {
	topic := w.topics[s.topic]
	last := s.begin + s.given
	if event == (api.Event{}) {
		return true
	}
	if s.ended || event.Kind != api.Value && (event.Value != "" || event.Cursor != "") {
		return false
	}
	switch event.Kind {
	case api.Value:
		return last < len(topic.values) && event.Value == topic.values[last] && event.Cursor == s.topic+"@"+strconv.Itoa(last+1) && (s.given > 0 || !s.mustExpire)
	case api.Closed:
		return topic.finished && last == len(topic.values)
	case api.Expired:
		return s.given == 0 && s.mayExpire
	case api.Broken:
		return w.mayBreak || s.given > 0 && last < w.gone(topic)
	}
	return false
}

func (w *world) pollAll() {
	w.t.Helper()
	for number := range w.streams {
		w.pollStream(number)
	}
}

// pollStream tells the events of a stream till None: how many values, and the
// number of its end, if it came.
func (w *world) pollStream(number int) (int, int) {
	w.t.Helper()
	for count := 0; ; count++ {
		event := w.poll(number)
		if event.Kind != api.Value {
			return count, event.Kind
		}
	}
}

// wants holds what a stream has given in all, and whether it has ended, against
// what it should.
func (w *world) wants(number, given int, ended bool) {
	w.t.Helper()
	if s := w.streams[number]; s.given != given || s.ended != ended {
		w.t.Fatalf("P10: stream %d has given %d values and ended: %v; want %d, %v", number, s.given, s.ended, given, ended)
	}
}

// wantsEnd polls a stream, which must give so many values more, and this end.
func (w *world) wantsEnd(number, count, end int) {
	w.t.Helper()
	if n, kind := w.pollStream(number); n != count || kind != end {
		w.t.Fatalf("P11: stream %d gives %d values and then %d, want %d and %d", number, n, kind, count, end)
	}
}

// openCalls tells how many calls have not ended.
func (w *world) openCalls() int {
	count := 0
	for _, c := range w.calls {
		if !c.ended {
			count++
		}
	}
	return count
}

// tryCall asks a question that no other one is like, and holds what Call answers
// against the ledger, as ask does.
func (w *world) tryCall(name string) bool {
	w.t.Helper()
	value := strconv.Itoa(len(w.calls))
	if name == "add" {
		value = "{x:" + value + ",y:-1}"
	}
	number, e := w.client.Call(name, value)
	isFull := w.openCalls() >= w.config.Window || len(w.open()) >= api.MaxStreams
	if e == api.ErrFull && number == 0 && (isFull || w.asked >= w.config.Window) {
		return false
	}
	if e != api.OK || number != len(w.calls) || isFull {
		w.t.Fatalf("P12: Call(%s, %s) = %d, %d, with %d calls and %d streams that have not ended, %d asked lately", name, value, number, e, w.openCalls(), len(w.open()), w.asked)
	}
	w.calls = append(w.calls, &asking{name: name, value: value})
	w.asked++
	return true
}

func (w *world) call(name string) int {
	w.t.Helper()
	if !w.tryCall(name) {
		w.t.Fatalf("P12: Call(%s) answers ErrFull", name)
	}
	return len(w.calls) - 1
}

// next takes a question, which must be of a call that was made behind those of the
// questions ahead of it, and tells whether there was one.
func (w *world) next() bool {
	w.t.Helper()
	q, ok := w.server.Next()
	if !ok {
		if q != (api.Question{}) {
			w.t.Fatalf("P12: Next gives %v and false", q)
		}
		return false
	}
	first := 0
	if len(w.given) > 0 {
		first = w.given[len(w.given)-1] + 1
	}
	place := slices.IndexFunc(w.calls[first:], func(c *asking) bool { return c.name == q.Name && c.value == q.Value })
	if place < 0 || q.Id != len(w.given) {
		w.t.Fatalf("P12: behind %d questions, the last one of call %d, Next gives %v", len(w.given), first-1, q)
	}
	w.owed = append(w.owed, q.Id)
	w.given = append(w.given, first+place)
	return true
}

func (w *world) nextAll() {
	w.t.Helper()
	for w.next() {
	}
}

// nexts takes so many questions, and there must be no more.
func (w *world) nexts(count int) {
	w.t.Helper()
	before := len(w.given)
	w.nextAll()
	if got := len(w.given) - before; got != count {
		w.t.Fatalf("P12: Next gives %d questions, want %d", got, count)
	}
}

// reply answers a question in a way that no other one is answered.
func (w *world) reply(id int) {
	w.t.Helper()
	c := w.calls[w.given[id]]
	c.answer = strconv.Itoa(-1000 - id)
	if c.name == "name" {
		c.answer = `"answer ` + strconv.Itoa(id) + `"`
	}
	c.replied = true
	w.is("P12: Reply", w.server.Reply(id, c.answer), api.OK)
	w.is("P12: Reply once more", w.server.Reply(id, c.answer), api.ErrCall)
	w.owed = slices.DeleteFunc(w.owed, func(n int) bool { return n == id })
}

func (w *world) replyAll() {
	w.t.Helper()
	for _, id := range slices.Clone(w.owed) {
		w.reply(id)
	}
}

// answer gives a call's next event, which it holds against the ledger.
func (w *world) answer(number int) api.Event {
	w.t.Helper()
	event, e := w.client.Answer(number)
	w.is("P12: Answer", e, api.OK)
	c := w.calls[number]
	mayCome := event == api.Event{} ||
		!c.ended && c.replied && event == api.Event{Kind: api.Value, Value: c.answer} ||
		!c.ended && w.mayBreak && event == api.Event{Kind: api.Broken}
	if !mayCome {
		w.t.Fatalf("P12: call %d (%+v) gives %v, with a cause to break: %v", number, *c, event, w.mayBreak)
	}
	c.ended = c.ended || event.Kind != api.None
	w.ends[event.Kind]++
	return event
}

func (w *world) answerAll() {
	w.t.Helper()
	for number := range w.calls {
		w.answer(number)
	}
}

// wantsAnswer asks for a call's next event, which must be of that kind.
func (w *world) wantsAnswer(number, kind int) {
	w.t.Helper()
	if event := w.answer(number); event.Kind != kind {
		w.t.Fatalf("P12: call %d gives %v, want the kind %d", number, event, kind)
	}
}

// refusesCalls holds that Call answers ErrFull.
func (w *world) refusesCalls() {
	w.t.Helper()
	if number, e := w.client.Call("name", "-1"); number != 0 || e != api.ErrFull {
		w.t.Fatalf("P12: Call = %d, %d, with %d calls that have not ended, want ErrFull", number, e, w.openCalls())
	}
}

// refusesStreams holds that Subscribe answers ErrFull.
func (w *world) refusesStreams() {
	w.t.Helper()
	if number, e := w.client.Subscribe("hues", ""); number != 0 || e != api.ErrFull {
		w.t.Fatalf("P10: Subscribe = %d, %d, want ErrFull", number, e)
	}
}
