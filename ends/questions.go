package ends

import (
	"slices"
	"strings"

	"courier/api"
	"courier/payloads"
	"courier/schemas"
	"courier/values"
)

// question is one that has come, and that Next has not given.
type question struct {
	name, value string
	back        way
}

// way is what is kept of a question till it is replied to: where its answer goes.
// It names the session, which may be no more by then.
type way struct {
	token, session, request uint64
	answer                  string // the answer's type
}

// call takes a question.
func (s *Server) call(p payloads.Payload) {
	one := s.request(p)
	if one == nil {
		return
	}
	name, data, _ := strings.Cut(p.Data, blank)
	item, ok := schemas.Find(s.items, schemas.Call, name)
	if !ok {
		return
	}
	value, e := values.Decode(s.items, item.Base.Text, []byte(data))
	if e != api.OK {
		return
	}
	back := way{token: one.token, session: one.number, request: p.Number, answer: item.Answer.Text}
	s.waits = append(s.waits, question{name: item.Name.Text, value: value, back: back})
}

// Next gives the oldest question (P12). One whose session has ended is given too:
// it has come.
func (s *Server) Next() (api.Question, bool) {
	if len(s.waits) == 0 {
		return api.Question{}, false
	}
	q := s.waits[0]
	s.waits = slices.Delete(s.waits, 0, 1)
	id := s.given
	s.given++
	s.owed[id] = q.back
	return api.Question{Id: id, Name: q.name, Value: q.value}, true
}

// Reply answers a question (P12).
func (s *Server) Reply(id int, value string) api.Errno {
	back, ok := s.owed[id]
	if !ok {
		return api.ErrCall
	}
	data, e := values.Encode(s.items, back.answer, value)
	if e != api.OK {
		return e
	}
	delete(s.owed, id)
	one := s.sessions[back.token]
	if one == nil || one.number != back.session {
		return api.OK
	}
	answer := one.payload(payloads.Answer, back.request)
	answer.Data = string(data)
	one.answers = append(one.answers, answer)
	if s.current == one {
		s.post(answer)
	}
	return api.OK
}
