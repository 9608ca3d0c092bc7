package courier_test

import (
	"math/rand"
	"strconv"
	"testing"

	"courier/api"
)

// storm does to a world what the document lets happen, at random.
type storm struct {
	*world
	source *rand.Rand
	flying []flight // all that came out and may still be handed in
	rough  bool     // sessions end too
	late   int      // frames that came behind the calm
}

func newStorm(t *testing.T, source *rand.Rand, rough bool) *storm {
	deadline := api.MaxDeadline
	if rough {
		deadline = api.MinDeadline + source.Intn(6)
	}
	w := newWorld(t, 1+source.Intn(api.MaxWindow), deadline, 1+source.Intn(api.MaxRetain))
	return &storm{world: w, source: source, rough: rough}
}

func (s *storm) step() {
	at := s.source.Intn(2)
	switch n := s.source.Intn(100); {
	case n < 30:
		s.flying = append(s.flying, s.out(at)...)
	case n < 60:
		s.handOne()
	case n < 70:
		s.tickSometimes(at)
	case n < 78:
		s.publishOne()
	case n < 83:
		s.askOne()
	case n < 87:
		s.callOne()
	case n < 89:
		s.replyOne()
	case n < 92:
		s.pollOne()
	case n < 95:
		s.change(at)
	case n < 97:
		s.round(func() bool { return s.source.Intn(4) == 0 })
	default:
		s.seldom()
	}
}

// handOne hands in one of the frames that came out, at times an old one, changed,
// or one that stays to be handed in again.
func (s *storm) handOne() {
	if len(s.flying) == 0 {
		return
	}
	place := 0
	if s.source.Intn(3) == 0 {
		place = s.source.Intn(len(s.flying))
	}
	f := s.flying[place]
	if s.source.Intn(10) == 0 {
		bad := append([]byte{}, f.frame...)
		bad[s.source.Intn(len(bad))] ^= byte(1 + s.source.Intn(255))
		s.handBytes(f.to, f.conn, bad)
		return
	}
	if s.source.Intn(8) > 0 {
		s.flying = append(s.flying[:place], s.flying[place+1:]...)
	}
	if s.source.Intn(12) > 0 {
		s.hand(f)
	}
}

// tickSometimes lets no session end for want of a frame, unless it is rough.
func (s *storm) tickSometimes(at int) {
	if s.rough || s.quiet[at] < s.config.Deadline-2 {
		s.tick(at)
	}
}

func (s *storm) publishOne() {
	topic := []string{"ticks", "words"}[s.source.Intn(2)]
	if s.topics[topic].finished {
		s.is("P9: Publish", s.server.Publish(topic, "1"), api.ErrClosed)
		return
	}
	value := strconv.Itoa(s.source.Intn(1000))
	if topic == "words" {
		value = `"` + value + `"`
	}
	s.publish(topic, value)
}

// askOne asks mostly for what there may be.
func (s *storm) askOne() {
	topic := []string{"ticks", "words", "hues"}[s.source.Intn(3)]
	count := len(s.topics[topic].values)
	position := s.gone(s.topics[topic]) + s.source.Intn(s.config.Retain+2) - 1
	if s.source.Intn(4) == 0 {
		position = count + s.source.Intn(3)
	}
	s.ask(topic, max(0, position))
}

func (s *storm) callOne() {
	s.tryCall([]string{"add", "name"}[s.source.Intn(2)])
}

// replyOne takes a question, and replies to any one that waits for it.
func (s *storm) replyOne() {
	s.next()
	if len(s.owed) > 0 && s.source.Intn(3) > 0 {
		s.reply(s.owed[s.source.Intn(len(s.owed))])
	}
}

func (s *storm) pollOne() {
	if len(s.streams) > 0 {
		s.poll(s.source.Intn(len(s.streams)))
	}
	if len(s.calls) > 0 {
		s.answer(len(s.calls) - 1 - s.source.Intn(min(len(s.calls), 4)))
	}
}

// change lets connections come and go, at one end or at both.
func (s *storm) change(at int) {
	switch {
	case s.source.Intn(2) == 0:
		s.connect()
	case s.up[at] && s.source.Intn(2) == 0:
		s.downAt(at)
	default:
		s.upAt(at, s.conn[at]+1+s.source.Intn(2))
	}
}

func (s *storm) seldom() {
	if n := s.source.Intn(12); n == 0 && s.rough {
		s.restart()
	} else if n == 1 && !s.topics["words"].finished {
		s.finish("words")
	} else if n < 4 {
		s.pollAll()
		s.answerAll()
	}
}

// run lets it storm and be calm by turns.
func (s *storm) run(steps int) {
	for range 4 {
		for range steps {
			s.step()
		}
		if !s.rough && s.mayBreak {
			s.t.Fatalf("a gentle storm has a cause to break")
		}
		s.settleDown()
		s.mustNotBeFull()
	}
}

// settleDown waits for calm, over a new connection or over the one that is there.
// Then, when there is no cause to break any more, frames of the storm follow.
func (s *storm) settleDown() {
	if s.up != [2]bool{true, true} || s.conn[0] != s.conn[1] || s.source.Intn(3) == 0 {
		s.settle()
		return
	}
	s.calm()
	for _, f := range s.flying {
		if f.conn == s.conn[f.to] {
			s.late++
			s.hand(f)
		}
	}
	s.rounds(2)
}

// mustNotBeFull asks for one thing, of which P14 says that it may be asked.
func (s *storm) mustNotBeFull() {
	if len(s.open()) == api.MaxStreams {
		s.refusesStreams()
		s.refusesCalls()
		return
	}
	if s.source.Intn(2) == 0 {
		s.subscribe("hues", 0)
		return
	}
	s.call("add")
}

// TestStorms holds what comes out against the ledger, many times over.
func TestStorms(t *testing.T) {
	for _, rough := range []bool{false, true} {
		counts, ends, late := map[int]int{}, map[int]int{}, 0
		for seed := range 700 {
			s := newStorm(t, rand.New(rand.NewSource(int64(seed))), rough)
			s.run(50 + seed%200)
			for kind, count := range s.counts {
				counts[kind] += count
			}
			for kind, count := range s.ends {
				ends[kind] += count
			}
			late += s.late
		}
		if late < 1000 {
			t.Errorf("only %d frames are late: the storms try too little", late)
		}
		for kind, least := range map[int]int{api.Value: 5000, api.Closed: 300, api.Broken: 100, api.Expired: 300} {
			if counts[kind] < least {
				t.Errorf("only %d events of the kind %d: the storms try too little", counts[kind], kind)
			}
		}
		if ends[api.Value] < 3000 || rough != (ends[api.Broken] > 1000) {
			t.Errorf("only %v events of calls: the storms try too little", ends)
		}
	}
}
