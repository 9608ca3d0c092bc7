package courier_test

import (
	"bytes"
	"slices"
	"strconv"
	"testing"

	"courier/api"
	"courier/courier"
)

func numbersUpTo(from, to int) []string {
	var values []string
	for n := from; n <= to; n++ {
		values = append(values, strconv.Itoa(n))
	}
	return values
}

// TestStreamExample is the document's, event by event.
func TestStreamExample(t *testing.T) {
	w := newWorld(t, 2, 10, 4)
	w.publish("ticks", "1", "2", "3")
	w.subscribe("ticks", 0)
	w.connect()
	w.tick(clientSide)
	w.tick(serverSide)
	w.exchange(never)
	for _, want := range []api.Event{{Kind: api.Value, Value: "1", Cursor: "ticks@1"}, {Kind: api.Value, Value: "2", Cursor: "ticks@2"}, {Kind: api.Value, Value: "3", Cursor: "ticks@3"}, {}, {}} {
		if event := w.poll(0); event != want {
			t.Fatalf("P10: Poll = %v, want %v", event, want)
		}
	}
	w.finish("ticks")
	w.subscribe("ticks", 2)
	w.subscribe("ticks", 9)
	w.exchange(never)
	w.wantsEnd(0, 0, api.Closed)
	w.wantsEnd(1, 1, api.Closed)
	w.wantsEnd(2, 0, api.Expired)
	for number := range 3 {
		w.wantsEnd(number, 0, api.None)
	}
}

// TestValuesOfAllTypes: each comes as it was published, with the cursor by which
// the stream can go on.
func TestValuesOfAllTypes(t *testing.T) {
	long := `"` + string(slices.Repeat([]byte("z"), api.MaxValue)) + `"`
	for topic, values := range map[string][]string{
		"ticks": {"0", "-1", "9223372036854775807", "-9223372036854775808"}, "marks": {"{x:0,y:0}", `{x:-5,y:7,tag:"\0a\ff"}`},
		"words": {`""`, `"a b"`, `"\22\5c"`, long}, "hues": {"red", "green", "red"},
	} {
		w := newWorld(t, 8, 10, 16)
		w.publish(topic, values...)
		for position := range len(values) + 1 {
			w.subscribe(topic, position)
		}
		w.settle()
		for position := range len(values) + 1 {
			w.wants(position, len(values)-position, false)
		}
	}
}

// TestCursorsGoOn: a cursor that Poll gave is where a stream goes on.
func TestCursorsGoOn(t *testing.T) {
	w := newWorld(t, 1, 10, 16)
	w.connect()
	w.publish("ticks", numbersUpTo(1, 16)...)
	cursor := ""
	for number := range 16 {
		if got, e := w.client.Subscribe("ticks", cursor); got != number || e != api.OK {
			t.Fatalf("P10: Subscribe(ticks, %s) = %d, %d", cursor, got, e)
		}
		w.tick(clientSide)
		w.tick(serverSide)
		w.exchange(never)
		event, _ := w.client.Poll(number)
		if want := strconv.Itoa(number + 1); event != (api.Event{Kind: api.Value, Value: want, Cursor: "ticks@" + want}) {
			t.Fatalf("P10: the first event behind %q is %v", cursor, event)
		}
		cursor = event.Cursor
		// The stream is read up to its end, so that there is room for the next one.
		w.server.Restart()
		w.tick(clientSide)
		w.exchange(never)
		for event.Kind == api.Value {
			event, _ = w.client.Poll(number)
		}
		if event.Kind != api.Broken {
			t.Fatalf("P13: behind Restart a stream ends with %v", event)
		}
	}
}

// TestKeptValues: for each number of values and each position, one more than
// kept ahead and one more than there is.
func TestKeptValues(t *testing.T) {
	for _, retain := range []int{1, 2, 5, 16} {
		for _, count := range []int{0, 1, retain - 1, retain, retain + 1, 2*retain + 3} {
			for _, position := range []int{0, 1, count - retain - 1, count - retain, count - retain + 1, count - 1, count, count + 1, count + 50, 999999999} {
				if position < 0 {
					continue
				}
				for _, finished := range []bool{false, true} {
					w := newWorld(t, 3, 10, retain)
					w.publish("ticks", numbersUpTo(1, count)...)
					if finished {
						w.finish("ticks")
					}
					number := w.subscribe("ticks", position)
					w.settle()
					switch {
					case position > count || position < count-retain:
						w.wants(number, 0, true)
						if w.counts[api.Expired] != 1 {
							t.Fatalf("P11: from %d of %d on with %d kept there is no Expired", position, count, retain)
						}
					default:
						w.wants(number, count-position, finished)
					}
				}
			}
		}
	}
}

// TestExpiredStays: what was so when the subscription came holds, though values
// come and Expired is lost again and again.
func TestExpiredStays(t *testing.T) {
	w := newWorld(t, 3, 50, 4)
	w.connect()
	w.rounds(1)
	w.publish("ticks", numbersUpTo(1, 5)...)
	ahead, behind := w.subscribe("ticks", 0), w.subscribe("ticks", 7)
	for _, f := range w.out(clientSide) {
		w.hand(f)
	}
	w.publish("ticks", "6", "7", "8", "9")
	for range 5 {
		w.tick(serverSide)
		w.tick(clientSide)
		for _, f := range w.out(clientSide) {
			w.hand(f)
		}
		w.out(serverSide)
	}
	w.rounds(1)
	if w.counts[api.Expired] != 2 {
		t.Fatalf("P11: two streams that could not begin give %v", w.counts)
	}
	w.wants(ahead, 0, true)
	w.wants(behind, 0, true)
}

// TestLostAheadOfTheFirst: a stream that waits, and whose first value is gone
// when the connection is there again.
func TestLostAheadOfTheFirst(t *testing.T) {
	w := newWorld(t, 2, 50, 3)
	w.connect()
	w.publish("ticks", "1")
	early, late := w.subscribe("ticks", 0), w.subscribe("ticks", 1)
	w.rounds(2)
	w.downAt(clientSide)
	w.publish("ticks", numbersUpTo(2, 4)...)
	w.settle()
	w.wants(early, 4, false)
	w.wants(late, 3, false)
	w.downAt(serverSide)
	number := w.subscribe("marks", 0)
	w.settle()
	w.downAt(clientSide)
	w.publish("ticks", numbersUpTo(5, 8)...)
	w.publish("marks", slices.Repeat([]string{"{x:1,y:1}"}, 4)...)
	w.settle()
	w.wants(early, 4, true)
	w.wants(late, 3, true)
	w.wants(number, 0, true)
	if w.counts[api.Broken] != 2 || w.counts[api.Expired] != 1 {
		t.Errorf("P11: behind a gap the streams give %v", w.counts)
	}
}

// TestLostThatWasNotNeeded: the server may not know yet which values the client
// has; as long as the next one is kept, nothing breaks.
func TestLostThatWasNotNeeded(t *testing.T) {
	w := newWorld(t, 4, 50, 4)
	w.connect()
	number := w.subscribe("ticks", 0)
	w.rounds(2)
	w.publish("ticks", numbersUpTo(1, 4)...)
	for _, f := range w.out(serverSide) {
		w.hand(f)
	}
	// What the client answers is lost; of the next values the first ones follow.
	w.out(clientSide)
	w.publish("ticks", numbersUpTo(5, 8)...)
	for range 3 {
		w.tick(serverSide)
		for _, f := range w.out(serverSide) {
			w.hand(f)
		}
		w.out(clientSide)
	}
	w.rounds(2)
	w.wants(number, 8, false)
	w.publish("ticks", numbersUpTo(9, 12)...)
	w.pollAll()
	w.rounds(2)
	w.wants(number, 12, false)
}

// TestUnreadValues: a client that does not poll holds a bounded number of values,
// and gives what it has ahead of the end.
func TestUnreadValues(t *testing.T) {
	w := newWorld(t, 2, 50, 4)
	w.connect()
	number := w.subscribe("ticks", 0)
	for n := 1; n <= 40; n++ {
		w.publish("ticks", strconv.Itoa(n))
		w.tick(clientSide)
		w.tick(serverSide)
		w.exchange(never)
	}
	given, end := w.pollStream(number)
	if given < 1 || given > 30 || end != api.Broken {
		t.Errorf("P11: a stream that is not read gives %d values and then %d", given, end)
	}
	// As long as all is kept, nothing is lost by not reading.
	number = w.subscribe("ticks", 36)
	w.tick(clientSide)
	w.tick(serverSide)
	w.exchange(never)
	for n := 41; n <= 44; n++ {
		w.publish("ticks", strconv.Itoa(n))
		w.tick(clientSide)
		w.tick(serverSide)
		w.exchange(never)
	}
	w.rounds(4)
	w.wants(number, 8, false)
}

func TestFinishAheadAndBehind(t *testing.T) {
	for _, isAhead := range []bool{true, false} {
		for _, count := range []int{0, 1, 5} {
			for position := range count + 1 {
				w := newWorld(t, 2, 10, 8)
				w.connect()
				w.publish("ticks", numbersUpTo(1, count)...)
				if isAhead {
					w.finish("ticks")
				}
				number := w.subscribe("ticks", position)
				w.rounds(3)
				w.wants(number, count-position, isAhead)
				if !isAhead {
					w.finish("ticks")
					w.rounds(1)
				}
				w.wants(number, count-position, true)
				if w.counts[api.Closed] != 1 {
					t.Errorf("P11: a stream of a finished topic gives %v", w.counts)
				}
				w.rounds(2)
			}
		}
	}
}

// TestOneTopicOfMany: what is published or finished is so for its topic alone.
func TestOneTopicOfMany(t *testing.T) {
	w := newWorld(t, 4, 10, 4)
	w.connect()
	for _, topic := range []string{"ticks", "marks", "words", "hues"} {
		w.subscribe(topic, 0)
	}
	w.publish("words", `"one"`, `"two"`)
	w.rounds(2)
	w.finish("marks")
	w.rounds(2)
	for number, want := range []int{0, 0, 2, 0} {
		w.wants(number, want, number == 1)
	}
	w.publish("hues", "red")
	w.finish("words")
	w.rounds(2)
	for number, want := range []int{0, 0, 2, 1} {
		w.wants(number, want, number == 1 || number == 2)
	}
}

// TestMaxStreams: as many as may be, and one more when Poll has given an end.
func TestMaxStreams(t *testing.T) {
	w := newWorld(t, api.MaxWindow, 10, 16)
	w.connect()
	for range api.MaxStreams {
		w.subscribe("ticks", 0)
	}
	if w.ask("ticks", 0) {
		t.Errorf("P10: there are nine streams")
	}
	w.publish("ticks", numbersUpTo(1, 16)...)
	w.rounds(3)
	if w.ask("hues", 0) {
		t.Errorf("P10: there are nine streams")
	}
	w.finish("ticks")
	w.tick(clientSide)
	w.tick(serverSide)
	w.exchange(never)
	if w.ask("hues", 0) {
		t.Errorf("P10: there is a ninth stream ahead of the Poll that gives an end")
	}
	for number := range api.MaxStreams {
		w.wantsEnd(number, 0, api.Closed)
		w.subscribe("hues", 0)
		if w.ask("hues", 0) {
			t.Errorf("P10: there are nine streams")
		}
	}
	w.publish("hues", "red")
	w.calm()
}

// TestStreamsThatBrokeCount: they have not ended as long as Poll has not said so.
func TestStreamsThatBrokeCount(t *testing.T) {
	w := newWorld(t, api.MaxWindow, 10, 16)
	w.connect()
	for range api.MaxStreams {
		w.subscribe("ticks", 0)
	}
	w.rounds(1)
	w.restart()
	w.tick(clientSide)
	w.exchange(never)
	if w.ask("ticks", 0) {
		t.Errorf("P10: there is a ninth stream ahead of the Poll that gives an end")
	}
	w.wantsEnd(5, 0, api.Broken)
	w.subscribe("ticks", 0)
	w.pollAll()
	w.publish("ticks", "1")
	w.calm()
	w.wants(8, 1, false)
}

// TestWindow: so many subscriptions may not have come to the server.
func TestWindow(t *testing.T) {
	for window := 1; window <= api.MaxWindow; window++ {
		w := newWorld(t, window, 10, 4)
		fill := func() {
			t.Helper()
			for range window {
				w.subscribe("ticks", 0)
			}
			if number, e := w.client.Subscribe("ticks", ""); number != 0 || e != api.ErrFull {
				t.Errorf("P10: with %d that have not come, Subscribe = %d, %d", window, number, e)
			}
		}
		fill()
		w.ticks(clientSide, 30)
		if number, e := w.client.Subscribe("ticks", ""); number != 0 || e != api.ErrFull {
			t.Errorf("P10: time alone lets Subscribe = %d, %d", number, e)
		}
		w.finish("ticks")
		w.settle()
		// With a session, over a connection that loses everything.
		fill()
		for range 3 {
			w.round(always)
		}
		if number, e := w.client.Subscribe("ticks", ""); number != 0 || e != api.ErrFull {
			t.Errorf("P10: with %d that were lost, Subscribe = %d, %d", window, number, e)
		}
		// They come to the server, but the client does not know.
		w.tick(clientSide)
		for _, f := range w.out(clientSide) {
			w.hand(f)
		}
		w.out(serverSide)
		if number, e := w.client.Subscribe("ticks", ""); number != 0 || e != api.ErrFull {
			t.Errorf("P10: with %d of which the client knows nothing, Subscribe = %d, %d", window, number, e)
		}
		w.rounds(1)
		w.asked = 0
		fill()
		w.settle()
		if len(w.open()) != 0 {
			t.Errorf("P14: %d streams of a finished topic have not ended", len(w.open()))
		}
	}
}

// hurt is what happens to frames on their way.
type hurt func(w *world, flights []flight) []flight

func hurts() map[string]hurt {
	var kept []flight
	return map[string]hurt{
		"nothing": func(w *world, flights []flight) []flight { return flights },
		"doubled": func(w *world, flights []flight) []flight { return slices.Concat(flights, flights) },
		"each doubled": func(w *world, flights []flight) []flight {
			var out []flight
			for _, f := range flights {
				out = append(out, f, f)
			}
			return out
		},
		"turned round": func(w *world, flights []flight) []flight { slices.Reverse(flights); return flights },
		"every one again": func(w *world, flights []flight) []flight {
			kept = slices.DeleteFunc(append(kept, flights...), func(f flight) bool { return f.conn != w.conn[f.to] })
			return kept[max(0, len(kept)-40):]
		},
		"changed beside the right one": func(w *world, flights []flight) []flight {
			for _, f := range flights {
				for i := range f.frame {
					bad := slices.Clone(f.frame)
					bad[i] ^= 0x55
					w.handBytes(f.to, f.conn, bad)
				}
			}
			return flights
		},
		"over another connection too": func(w *world, flights []flight) []flight {
			for _, f := range flights {
				w.handBytes(f.to, f.conn+1, f.frame)
				w.handBytes(f.to, f.conn-1, f.frame)
			}
			return flights
		},
	}
}

// hurtRound is a round in which that happens to all frames, up to the Polls.
func (w *world) hurtRound(h hurt) {
	w.t.Helper()
	w.tick(clientSide)
	w.tick(serverSide)
	for range 6 {
		for _, at := range []int{clientSide, serverSide} {
			for _, f := range h(w, w.out(at)) {
				w.hand(f)
			}
		}
	}
}

// TestFramesOnTheirWay: what may happen to frames changes nothing of the values.
func TestFramesOnTheirWay(t *testing.T) {
	for name, h := range hurts() {
		t.Run(name, func(t *testing.T) {
			w := newWorld(t, 3, 10, 16)
			w.connect()
			for range 4 {
				w.ask("ticks", 0)
			}
			w.subscribeSoon("marks")
			for n := range 40 {
				if n%3 == 0 {
					w.publish("ticks", strconv.Itoa(n))
				}
				if n == 20 {
					w.finish("marks")
				}
				w.hurtRound(h)
				w.pollAll()
			}
			w.calm()
			if w.counts[api.Value] != 3*14 || w.counts[api.Closed] != 1 || w.counts[api.Broken] != 0 {
				t.Errorf("P10: the events are %v", w.counts)
			}
		})
	}
}

// subscribeSoon subscribes as soon as the Window lets it.
func (w *world) subscribeSoon(topic string) {
	w.t.Helper()
	for range 5 {
		if w.ask(topic, 0) {
			return
		}
		w.rounds(1)
	}
	w.t.Fatalf("P14: Subscribe goes on answering ErrFull")
}

// TestLateFrames keeps each frame back for some rounds, all in a jumble.
func TestLateFrames(t *testing.T) {
	for late := 1; late < 9; late++ {
		w := newWorld(t, 2, 40, 16)
		w.connect()
		number := w.subscribe("ticks", 0)
		byRound := map[int][]flight{}
		for n := range 120 {
			if n%8 == 0 {
				w.publish("ticks", strconv.Itoa(n))
			}
			for _, at := range []int{clientSide, serverSide} {
				w.tick(at)
				for i, f := range w.out(at) {
					when := n + 1 + (i*7+n*3)%late
					byRound[when] = append(byRound[when], f)
				}
			}
			for i := range byRound[n] {
				w.hand(byRound[n][len(byRound[n])-1-i])
			}
			delete(byRound, n)
			w.pollAll()
		}
		w.wants(number, 15, false)
	}
}

// TestReconnects: connections go down and come up anew, at one end or at both, at
// any time; nothing is left out and nothing breaks.
func TestReconnects(t *testing.T) {
	for step := range 12 {
		w := newWorld(t, 2, 50, 16)
		w.connect()
		number, other := w.subscribe("ticks", 0), w.subscribe("words", 0)
		w.rounds(1)
		for n := range 8 {
			w.publish("ticks", strconv.Itoa(n))
			w.tick(step % 2)
			flights := slices.Concat(w.out(clientSide), w.out(serverSide))
			switch step % 6 {
			case 0:
				w.downAt(clientSide)
				w.downAt(serverSide)
			case 1:
				w.downAt(clientSide)
			case 2:
				w.downAt(serverSide)
			case 3:
				w.upAt(clientSide, w.conn[clientSide]+1)
			case 4:
				w.upAt(serverSide, w.conn[serverSide]+1)
			}
			// What was sent over the earlier connection comes to nothing.
			for _, f := range flights {
				w.hand(f)
			}
			w.rounds(1)
			w.connect()
			for _, f := range flights {
				w.hand(f)
			}
			if step >= 6 {
				w.rounds(1)
			}
		}
		w.calm()
		w.wants(number, 8, false)
		w.wants(other, 0, false)
	}
}

// TestOneEndKnowsLater: a connection is up at one end for some time ahead of the
// other one.
func TestOneEndKnowsLater(t *testing.T) {
	for first := range 2 {
		w := newWorld(t, 2, 50, 16)
		w.publish("ticks", "1", "2")
		number := w.subscribe("ticks", 0)
		for conn := 1; conn < 6; conn++ {
			w.upAt(first, conn)
			w.rounds(3)
			w.upAt(1-first, conn)
			w.rounds(2)
			w.wants(number, conn+1, false)
			w.publish("ticks", strconv.Itoa(conn+2))
		}
		w.calm()
	}
}

// TestDeadlineOfTheClient: so many ticks without a frame end the session, one
// less does not.
func TestDeadlineOfTheClient(t *testing.T) {
	for _, deadline := range []int{api.MinDeadline, 7, api.MaxDeadline} {
		for _, isUp := range []bool{true, false} {
			w := newWorld(t, 2, deadline, 4)
			w.connect()
			w.publish("ticks", "1", "2")
			number, other := w.subscribe("ticks", 0), w.subscribe("ticks", 2)
			w.rounds(2)
			for range 3 {
				// What the server sent counts, though it is nothing new.
				w.tick(serverSide)
				flights := w.out(serverSide)
				w.ticks(clientSide, deadline-1)
				w.out(clientSide)
				w.hand(flights[0])
			}
			if !isUp {
				w.downAt(clientSide)
			}
			w.ticks(clientSide, deadline-1)
			w.wantsEnd(number, 0, api.None)
			w.tick(clientSide)
			w.wantsEnd(number, 0, api.Broken)
			w.wantsEnd(other, 0, api.Broken)
			// The next session begins by itself.
			next := w.subscribe("ticks", 1)
			w.settle()
			w.wants(next, 1, false)
			w.publish("ticks", "3")
			w.rounds(1)
			w.wants(next, 2, false)
		}
	}
}

// TestDeadlineOfTheServer: the client is told when it comes again.
func TestDeadlineOfTheServer(t *testing.T) {
	for _, deadline := range []int{api.MinDeadline, 7, api.MaxDeadline} {
		for less := range 2 {
			w := newWorld(t, 2, deadline, 4)
			w.connect()
			number := w.subscribe("ticks", 0)
			w.rounds(2)
			for range 3 {
				// What the client sent counts, though it is nothing new.
				w.tick(clientSide)
				flights := w.out(clientSide)
				w.ticks(serverSide, deadline-1)
				for _, f := range append(w.out(serverSide), flights[0]) {
					w.hand(f)
				}
			}
			w.ticks(serverSide, deadline-less)
			w.out(serverSide)
			w.publish("ticks", "1")
			w.tick(clientSide)
			w.exchange(never)
			w.rounds(2)
			if less == 1 {
				w.wants(number, 1, false)
				continue
			}
			w.wants(number, 0, true)
			next := w.subscribe("ticks", 0)
			w.rounds(2)
			w.wants(next, 1, false)
		}
	}
}

// TestNoSessionNoDeadline: what is asked ahead of the first session waits.
func TestNoSessionNoDeadline(t *testing.T) {
	w := newWorld(t, 2, 4, 4)
	number := w.subscribe("ticks", 0)
	w.ticks(clientSide, 100)
	w.wantsEnd(number, 0, api.None)
	w.upAt(clientSide, 5)
	w.ticks(clientSide, 100)
	w.out(clientSide)
	w.wantsEnd(number, 0, api.None)
	w.publish("ticks", "1")
	w.settle()
	w.wants(number, 1, false)
}

// TestSubscribeInADeadSession: the server has forgotten the session, the client
// does not know yet; what is asked now ends with it.
func TestSubscribeInADeadSession(t *testing.T) {
	w := newWorld(t, 2, 5, 4)
	w.connect()
	w.rounds(2)
	w.ticks(serverSide, 5)
	number := w.subscribe("ticks", 0)
	w.publish("ticks", "1")
	w.settle()
	w.wants(number, w.streams[number].given, w.streams[number].given == 0)
	next := w.subscribe("ticks", 0)
	w.rounds(2)
	w.wants(next, 1, false)
}

func TestRestart(t *testing.T) {
	w := newWorld(t, 3, 10, 4)
	w.restart()
	w.connect()
	w.publish("ticks", numbersUpTo(1, 6)...)
	w.finish("hues")
	number, other := w.subscribe("ticks", 2), w.subscribe("words", 0)
	w.rounds(1)
	for range 5 {
		w.restart()
		w.restart()
		w.rounds(1)
		w.wants(number, 4, true)
		w.wants(other, 0, true)
		// Topics and their values stay, the connection too.
		number, other = w.subscribe("ticks", 2), w.subscribe("words", 0)
		closed := w.subscribe("hues", 0)
		w.rounds(1)
		w.wants(number, 4, false)
		w.wants(other, 0, false)
		w.wants(closed, 0, true)
	}
	w.is("P9: Publish", w.server.Publish("hues", "red"), api.ErrClosed)
	w.mayBreak = false
	w.rounds(20)
	w.publish("ticks", "7")
	w.rounds(1)
	w.wants(number, 5, false)
}

// TestRestartOverLateFrames: what was said in sessions that are gone, in any order
// and over the connection that stays, brings none of them back, and breaks none
// that came later.
func TestRestartOverLateFrames(t *testing.T) {
	w := newWorld(t, 8, 50, 16)
	w.connect()
	var all []flight
	listen := func(rounds int) {
		for range rounds {
			w.tick(clientSide)
			w.tick(serverSide)
			for range 6 {
				for _, at := range []int{clientSide, serverSide} {
					for _, f := range w.out(at) {
						all = append(all, f)
						w.hand(f)
					}
				}
			}
			w.pollAll()
		}
	}
	for n := range 5 {
		w.subscribe("ticks", n)
		w.publish("ticks", strconv.Itoa(n))
		listen(3)
		w.restart()
		listen(3)
	}
	if len(w.open()) != 0 {
		t.Fatalf("P13: behind Restart %d streams have not ended", len(w.open()))
	}
	number := w.subscribe("ticks", 3)
	listen(3)
	w.mayBreak = false
	for range 3 {
		for i := range all {
			w.hand(all[i])
			w.hand(all[len(all)-1-i])
			if i%50 == 0 {
				w.pollAll()
			}
			w.out(i % 2)
		}
	}
	w.publish("ticks", "7", "8")
	w.rounds(3)
	w.wants(number, 4, false)
}

// TestLateHelloBehindRestart: frames by which a session was begun come once more
// when the server has forgotten it. The client's streams end, as no other session
// may take the place of theirs.
func TestLateHelloBehindRestart(t *testing.T) {
	w := newWorld(t, 2, 50, 4)
	w.connect()
	number := w.subscribe("ticks", 0)
	var begun []flight
	for range 3 {
		for _, at := range []int{clientSide, serverSide} {
			for _, f := range w.out(at) {
				begun = append(begun, f)
				w.hand(f)
			}
		}
	}
	w.publish("ticks", "1")
	w.rounds(1)
	w.wants(number, 1, false)
	w.restart()
	for _, f := range begun {
		w.hand(f)
	}
	w.exchange(never)
	w.publish("ticks", "2")
	w.calm()
	w.wants(number, w.streams[number].given, true)
	next := w.subscribe("ticks", 1)
	w.calm()
	w.wants(next, 1, false)
}

// TestLateWelcome: an answer to what was asked for an earlier session begins none,
// so that nothing breaks by it.
func TestLateWelcome(t *testing.T) {
	w := newWorld(t, 2, 50, 4)
	w.connect()
	for _, f := range w.out(clientSide) {
		w.hand(f)
	}
	welcome := w.out(serverSide)
	for _, f := range welcome {
		w.hand(f)
	}
	w.exchange(never)
	w.restart()
	w.tick(clientSide)
	for _, at := range []int{clientSide, serverSide} {
		for _, f := range w.out(at) {
			w.hand(f)
		}
	}
	// The client knows by now, and what it asks for next is lost.
	w.out(clientSide)
	w.mayBreak = false
	w.publish("ticks", "1")
	number := w.subscribe("ticks", 0)
	for _, f := range welcome {
		w.hand(f)
	}
	w.exchange(never)
	w.rounds(2)
	w.wants(number, 1, false)
}

// TestEndThatIsKnown: when the session ends, a stream gives what has come ahead of
// that, its end too.
func TestEndThatIsKnown(t *testing.T) {
	w := newWorld(t, 3, 5, 4)
	w.connect()
	w.publish("ticks", "1", "2")
	w.publish("words", `"a"`)
	w.finish("ticks")
	closed, expired, broken := w.subscribe("ticks", 0), w.subscribe("ticks", 3), w.subscribe("words", 0)
	w.exchange(never)
	w.ticks(clientSide, 5)
	w.wantsEnd(closed, 2, api.Closed)
	w.wantsEnd(expired, 0, api.Expired)
	w.wantsEnd(broken, 1, api.Broken)
}

// hears tells whether a value goes out at the server.
func (w *world) hears(value string) bool {
	for _, f := range w.out(serverSide) {
		if bytes.Contains(f.frame, []byte(value)) {
			return true
		}
	}
	return false
}

// TestNobodyIsThere: values go out to a client that has a session and has spoken
// over the connection, to no one else.
func TestNobodyIsThere(t *testing.T) {
	w := newWorld(t, 2, 5, 4)
	hears := func(want bool) {
		t.Helper()
		w.publish("words", `"secret"`)
		w.tick(serverSide)
		if got := w.hears("secret"); got != want {
			t.Errorf("P8, P9: that a value goes out is %v, want %v", got, want)
		}
	}
	hears(false)
	w.connect()
	hears(false)
	w.subscribe("words", 2)
	w.rounds(1)
	hears(true)
	w.upAt(serverSide, 2)
	hears(false)
	w.upAt(clientSide, 2)
	w.rounds(1)
	hears(true)
	w.publish("words", `"secret"`)
	w.restart()
	hears(false)
	w.rounds(1)
	w.subscribe("words", 6)
	w.rounds(1)
	hears(true)
	w.ticks(serverSide, 5)
	hears(false)
}

// TestAtOnce: what can come in the first round does.
func TestAtOnce(t *testing.T) {
	w := newWorld(t, 2, 5, 8)
	w.publish("ticks", "1", "2")
	number := w.subscribe("ticks", 0)
	w.connect()
	w.rounds(1)
	w.wants(number, 2, false)
	w.publish("ticks", "3")
	w.exchange(never)
	w.wantsEnd(number, 1, api.None)
	w.downAt(serverSide)
	w.publish("ticks", "4")
	w.connect()
	w.rounds(1)
	w.wants(number, 4, false)
	w.restart()
	w.rounds(1)
	w.wants(number, 4, true)
	number = w.subscribe("ticks", 1)
	w.exchange(never)
	w.wantsEnd(number, 3, api.None)
	w.finish("ticks")
	w.exchange(never)
	w.wantsEnd(number, 0, api.Closed)
}

// TestUnderWay: of a stream no more than Window values are on their way.
func TestUnderWay(t *testing.T) {
	for window := 1; window <= api.MaxWindow; window++ {
		w := newWorld(t, window, 50, 16)
		w.connect()
		w.subscribe("words", 0)
		w.rounds(1)
		w.publish("words", slices.Repeat([]string{`"under way"`}, 16)...)
		for range 3 {
			count := 0
			for _, f := range w.out(serverSide) {
				if bytes.Contains(f.frame, []byte("under way")) {
					count++
				}
			}
			if count != window {
				t.Errorf("with a Window of %d, %d values come out at once", window, count)
			}
			w.tick(serverSide)
		}
	}
}

// TestManyStreams: streams that ended leave nothing behind that is in the way of
// others, nor is anything said of them any more.
func TestManyStreams(t *testing.T) {
	w := newWorld(t, 8, 50, 4)
	w.connect()
	w.finish("hues")
	for range 60 {
		for range 5 {
			w.subscribe("hues", 0)
		}
		w.rounds(2)
		w.asked = 0
	}
	number := w.subscribe("ticks", 0)
	w.publish("ticks", "1", "2", "3")
	w.rounds(2)
	w.wants(number, 3, false)
	w.handed = [2]int{}
	w.tick(clientSide)
	w.tick(serverSide)
	w.exchange(never)
	if w.handed[clientSide] > 3 || w.handed[serverSide] > 3 {
		t.Errorf("when nothing is new, %v frames go to and fro", w.handed)
	}
	if number != 300 || w.counts[api.Closed] != 300 {
		t.Errorf("P10: there were %d streams, with the events %v", number, w.counts)
	}
}

// TestClientsOneBehindTheOther: each has its own session. One that comes again in
// time goes on with it, as there is no cause for it to break.
func TestClientsOneBehindTheOther(t *testing.T) {
	w := newWorld(t, 2, 10, 16)
	other, _ := courier.NewClient(worldSchema, w.config, 77)
	first := w.client
	number := w.subscribe("ticks", 0)
	w.connect()
	w.publish("ticks", "1")
	w.rounds(2)
	w.wants(number, 1, false)
	w.downAt(clientSide)
	// The other one comes.
	w.is("P8: Up", other.Up(2), api.OK)
	w.is("P8: Up", w.server.Up(2), api.OK)
	if number, e := other.Subscribe("ticks", ""); number != 0 || e != api.OK {
		t.Fatalf("P10: Subscribe of another client = %d, %d", number, e)
	}
	swap(other, w.server, 2, 5)
	if event, _ := other.Poll(0); event != (api.Event{Kind: api.Value, Value: "1", Cursor: "ticks@1"}) {
		t.Errorf("P10: another client gets %v", event)
	}
	w.publish("ticks", "2")
	swap(other, w.server, 2, 2)
	// And goes; the first one comes again.
	w.is("P8: Down", other.Down(2), api.OK)
	w.conn[clientSide], w.conn[serverSide] = 2, 2
	w.connect()
	w.rounds(2)
	w.wants(number, 2, false)
	// The other one again, too late.
	w.downAt(clientSide)
	for range 10 {
		other.Tick()
	}
	w.is("P8: Up", other.Up(4), api.OK)
	w.is("P8: Up", w.server.Up(4), api.OK)
	swap(other, w.server, 4, 5)
	for _, want := range []api.Event{{Kind: api.Value, Value: "2", Cursor: "ticks@2"}, {Kind: api.Broken}, {}} {
		if event, _ := other.Poll(0); event != want {
			t.Errorf("P11: another client gets %v, want %v", event, want)
		}
	}
	if number, e := other.Subscribe("ticks", "ticks@1"); number != 1 || e != api.OK {
		t.Fatalf("P10: Subscribe of another client = %d, %d", number, e)
	}
	swap(other, w.server, 4, 1)
	if event, _ := other.Poll(1); event != (api.Event{Kind: api.Value, Value: "2", Cursor: "ticks@2"}) {
		t.Errorf("P10: another client gets %v", event)
	}
	if w.client != first || w.counts[api.Broken] != 0 {
		t.Errorf("P11: the first client's stream breaks")
	}
}

// swap has a client and a server go on for some rounds, beside any ledger.
func swap(c *courier.Client, s *courier.Server, conn, rounds int) {
	for range rounds {
		c.Tick()
		s.Tick()
		for range 20 {
			for _, frame := range c.Out() {
				s.Receive(conn, frame)
			}
			for _, frame := range s.Out() {
				c.Receive(conn, frame)
			}
		}
	}
}

// TestTokens: any number will do.
func TestTokens(t *testing.T) {
	config := api.Config{Window: 8, Deadline: 50, Retain: 16}
	server, _ := courier.NewServer(worldSchema, config)
	long := `"` + string(slices.Repeat([]byte{'w'}, api.MaxValue)) + `"`
	server.Publish("words", long)
	for i, token := range []uint64{0, 1, 127, 128, 1 << 32, 1 << 63, 1<<64 - 1} {
		client, _ := courier.NewClient(worldSchema, config, token)
		client.Up(i)
		server.Up(i)
		client.Subscribe("words", "")
		swap(client, server, i, 2)
		if event, e := client.Poll(0); e != api.OK || event != (api.Event{Kind: api.Value, Value: long, Cursor: "words@1"}) {
			t.Errorf("P7: with the token %d a stream gives %v, %d", token, event, e)
		}
	}
}

// TestEndsApart: what is done to one pair is not to be seen at another one.
func TestEndsApart(t *testing.T) {
	a, b := newWorld(t, 2, 10, 4), newWorld(t, 2, 10, 4)
	for _, w := range []*world{a, b} {
		w.connect()
		w.subscribe("ticks", 0)
		w.rounds(1)
	}
	a.publish("ticks", "1")
	a.finish("words")
	a.rounds(2)
	b.rounds(2)
	b.publish("words", `"b"`)
	b.publish("ticks", "5")
	b.restart()
	b.rounds(2)
	a.rounds(2)
	a.wants(0, 1, false)
	b.wants(0, b.streams[0].given, true)
}
