package courier_test

import (
	"math/rand"
	"slices"
	"strconv"
	"testing"

	"courier/api"
)

// TestRoundsOfAFullWorld: all topics full, as many streams as may be, at each
// Window and Retain: what P14 says of Outs is watched by exchange, of rounds by
// calm.
func TestRoundsOfAFullWorld(t *testing.T) {
	for window := 1; window <= api.MaxWindow; window++ {
		for _, retain := range []int{1, 2, 7, api.MaxRetain} {
			w := newWorld(t, window, api.MinDeadline, retain)
			w.connect()
			for number := range api.MaxStreams {
				if !w.ask([]string{"ticks", "words"}[number%2], 0) {
					w.rounds(1)
					w.subscribeSoon("ticks")
				}
			}
			w.publish("ticks", numbersUpTo(1, retain)...)
			w.publish("words", slices.Repeat([]string{`"word"`}, retain)...)
			w.calm()
			for number := range api.MaxStreams {
				w.wants(number, w.streams[number].given, false)
			}
			w.finish("ticks")
			w.finish("words")
			w.settle()
			if len(w.open()) != 0 || w.counts[api.Closed] != api.MaxStreams {
				t.Errorf("P14: with a Window of %d and %d kept, %d streams have not ended, the events are %v", window, retain, len(w.open()), w.counts)
			}
		}
	}
}

// TestCalmBehindAnything: whatever was ahead, behind the rounds of P14 all has
// come, and a Subscribe that may be is OK.
func TestCalmBehindAnything(t *testing.T) {
	for name, ahead := range map[string]func(*world){
		"nothing":                 func(w *world) {},
		"silence":                 func(w *world) { w.ticks(clientSide, 100); w.ticks(serverSide, 100) },
		"silence at the client":   func(w *world) { w.ticks(clientSide, 4) },
		"silence at the server":   func(w *world) { w.ticks(serverSide, 4) },
		"a tick less":             func(w *world) { w.ticks(clientSide, 3); w.ticks(serverSide, 3) },
		"Restart":                 func(w *world) { w.restart() },
		"no connection":           func(w *world) { w.downAt(clientSide); w.downAt(serverSide) },
		"other connections":       func(w *world) { w.upAt(clientSide, 50); w.upAt(serverSide, 40) },
		"frames that nobody took": func(w *world) { w.out(clientSide); w.out(serverSide) },
		"frames that one took": func(w *world) {
			w.tick(clientSide)
			for _, f := range w.out(clientSide) {
				w.hand(f)
			}
			w.out(serverSide)
		},
		"Restart behind a lost answer": func(w *world) {
			w.restart()
			w.tick(clientSide)
			for _, f := range w.out(clientSide) {
				w.hand(f)
			}
			w.out(serverSide)
			w.restart()
		},
	} {
		t.Run(name, func(t *testing.T) {
			for _, isBegun := range []bool{true, false} {
				for window := 1; window <= 3; window++ {
					w := newWorld(t, window, api.MinDeadline, 4)
					w.connect()
					if isBegun {
						w.rounds(2)
					}
					w.publish("ticks", "1", "2", "3")
					for w.ask("ticks", 1) {
					}
					ahead(w)
					w.publish("ticks", "4")
					for range 3 {
						w.settle()
						for w.ask("ticks", 2) {
						}
					}
					w.settle()
					w.finish("ticks")
					w.settle()
					for range window {
						w.subscribe("ticks", 3)
					}
					w.settle()
					if len(w.open()) != 0 {
						t.Errorf("P14: %d streams have not ended", len(w.open()))
					}
				}
			}
		})
	}
}

// TestWithoutOut: however much is to go out, no more than MaxOut does at once, and
// rounds bring all of it.
func TestWithoutOut(t *testing.T) {
	w := newWorld(t, api.MaxWindow, 50, api.MaxRetain)
	w.connect()
	for range api.MaxStreams {
		w.subscribe("ticks", 0)
	}
	w.rounds(1)
	for n := range api.MaxRetain {
		w.publish("ticks", strconv.Itoa(n))
		w.tick(serverSide)
		w.tick(clientSide)
	}
	w.ticks(serverSide, 30)
	w.ticks(clientSide, 30)
	for _, at := range []int{serverSide, clientSide} {
		if frames := w.out(at); len(frames) == 0 {
			t.Errorf("P8: behind many ticks nothing comes out")
		}
	}
	w.rounds(3)
	for number := range api.MaxStreams {
		w.wants(number, api.MaxRetain, false)
	}
}

// TestOutGivesEachFrameOnce: no frame is twice in one Out, and none without a call
// that asks for it.
func TestOutGivesEachFrameOnce(t *testing.T) {
	w := newWorld(t, 4, 20, 8)
	w.connect()
	for n := range 30 {
		w.ask("ticks", n)
		w.publish("ticks", strconv.Itoa(n))
		for _, at := range []int{clientSide, serverSide} {
			w.ticks(at, 3)
			seen := map[string]int{}
			for _, f := range w.out(at) {
				if seen[string(f.frame)]++; seen[string(f.frame)] > 1 {
					t.Fatalf("P8: one Out gives %v twice", f.frame)
				}
				w.hand(f)
			}
			if more := w.out(at); len(more) > 0 {
				t.Fatalf("P8: Out behind Out gives %v", more)
			}
		}
		w.pollAll()
	}
}

// TestFramesThatAreLost: at each rate, with rounds of P14 between.
func TestFramesThatAreLost(t *testing.T) {
	source := rand.New(rand.NewSource(30))
	for _, percent := range []int{5, 30, 60, 90} {
		for range 20 {
			w := newWorld(t, 1+source.Intn(api.MaxWindow), 50, 16)
			w.connect()
			w.subscribe("ticks", 0)
			for n := range 16 {
				w.publish("ticks", strconv.Itoa(n))
				for range 2 {
					w.round(func() bool { return source.Intn(100) < percent })
				}
			}
			w.rounds(1)
			w.calm()
			w.wants(0, 16, false)
		}
	}
}
