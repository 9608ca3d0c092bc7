package ends

import (
	"slices"

	"courier/api"
	"courier/payloads"
	"courier/schemas"
	"courier/values"
)

// stream is what the client has of a stream.
type stream struct {
	number  int    // as the caller knows it
	request uint64 // the number of the request that began it, in its session
	topic   schemas.Item
	begin   uint64   // the position from which on it was asked for
	got     uint64   // up to where the values have come
	values  []string // the last ones of these, which Poll has not given
	end     int      // the event behind them; None as long as none is known
}

// add takes a value if it is the next one and there is room: no more are held
// than the server keeps, which sends again what was not taken.
func (s *stream) add(items []schemas.Item, p payloads.Payload, room int) {
	if p.Position != s.got+1 || len(s.values) >= room {
		return
	}
	text, e := values.Decode(items, s.topic.Base.Text, []byte(p.Data))
	if e != api.OK {
		return
	}
	s.values = append(s.values, text)
	s.got++
}

// finish says how a stream ends, if that is not known yet.
func (s *stream) finish(end int) {
	if s.end == api.None {
		s.end = end
	}
}

// cut is how a stream ends whose next value is lost: Expired says so of the first
// one, Broken of those behind it.
func (s *stream) cut() int {
	if s.got == s.begin {
		return api.Expired
	}
	return api.Broken
}

// event gives what Poll is to tell next, and drops it but for an end.
func (s *stream) event() api.Event {
	if len(s.values) == 0 {
		return api.Event{Kind: s.end}
	}
	position := s.got - uint64(len(s.values)) + 1
	event := api.Event{Kind: api.Value, Value: s.values[0], Cursor: cursorOf(s.topic.Name.Text, position)}
	s.values = slices.Delete(s.values, 0, 1)
	return event
}
