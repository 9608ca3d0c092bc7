package ends

import (
	"slices"

	"courier/api"
	"courier/payloads"
	"courier/values"
)

// Server has topics, and feeds their values to the streams of sessions; it takes
// questions, and gives the answers to those who asked.
type Server struct {
	end
	topics   []*topic
	sessions map[uint64]*session // by the client's token
	current  *session            // the one whose client spoke last over the connection that is up
	begun    uint64              // sessions so far; Restart too leaves it, so that no late frame is taken for one of a later session

	waits []question  // those that Next has not given, the oldest first
	given int         // questions that it has given so far
	owed  map[int]way // those of them that are not replied to, by their ids
}

// NewServer makes a server (P7).
func NewServer(schema string, c api.Config) (*Server, api.Errno) {
	shared, e := newEnd(schema, c)
	if e != api.OK {
		return nil, e
	}
	return &Server{end: shared, topics: topicsOf(shared.items), sessions: map[uint64]*session{}, owed: map[int]way{}}, api.OK
}

// Up tells of a connection (P8). Which client is at its other end is not known
// yet.
func (s *Server) Up(conn int) api.Errno {
	if !s.raise(conn) {
		return api.ErrConn
	}
	s.current = nil
	return api.OK
}

// Tick lets time go by: sessions from whose client nothing came for too long end.
func (s *Server) Tick() {
	for token, one := range s.sessions {
		if one.silence++; one.silence < s.config.Deadline {
			continue
		}
		delete(s.sessions, token)
		if s.current == one {
			s.quit()
		}
	}
	s.speak()
}

// quit has nothing more go out for the session that was spoken to.
func (s *Server) quit() {
	s.current = nil
	s.empty()
}

// speak says all that the client may not know, and at least that the server is
// there. Answers come ahead of values: of these there may be too many for one Out,
// and those that had no room go on by themselves.
func (s *Server) speak() {
	if s.current == nil {
		s.post(payloads.Payload{Kind: payloads.Heard})
		return
	}
	s.post(s.current.heard())
	for _, answer := range s.current.answers {
		s.post(answer)
	}
	for _, f := range s.current.feeds {
		f.sent = f.got
		s.push(f)
	}
}

// Receive takes a frame (P8).
func (s *Server) Receive(conn int, frame []byte) api.Errno {
	if !s.isUp(conn) {
		return api.ErrConn
	}
	if p, ok := open(frame); ok {
		s.take(p)
	}
	return api.OK
}

// take does what a payload asks for. Any one of a client, a late one too, is a
// sign of it for the session that the client has now (P11).
func (s *Server) take(p payloads.Payload) {
	does := [...]func(*Server, payloads.Payload){
		payloads.Hello:     (*Server).hello,
		payloads.Here:      (*Server).here,
		payloads.Subscribe: (*Server).subscribe,
		payloads.Call:      (*Server).call,
		payloads.Got:       (*Server).got,
		payloads.Done:      (*Server).done,
	}
	if int(p.Kind) >= len(does) {
		return
	}
	if one := s.sessions[p.Token]; one != nil {
		one.silence = 0
	}
	does[p.Kind](s, p)
}

// hello begins a session, if the client asks for a later one than it had. One
// that comes once more is answered once more.
func (s *Server) hello(p payloads.Payload) {
	one := s.sessions[p.Token]
	if one == nil || one.attempt < p.Number {
		s.begun++
		one = &session{token: p.Token, attempt: p.Number, number: s.begun}
		s.sessions[p.Token] = one
	}
	if one.attempt == p.Number {
		s.current = one
		s.post(one.payload(payloads.Welcome, one.attempt))
	}
}

func (s *Server) here(p payloads.Payload) {
	if one := s.sessionOf(p); one != nil {
		s.post(one.heard())
	}
}

// request gives the session of a request that is its next one, and nil else:
// requests are taken in their order alone, each once.
func (s *Server) request(p payloads.Payload) *session {
	one := s.sessionOf(p)
	if one == nil {
		return nil
	}
	isNext := p.Number == one.next
	if isNext {
		one.next++
	}
	s.post(one.heard())
	if !isNext {
		return nil
	}
	return one
}

func (s *Server) subscribe(p payloads.Payload) {
	one := s.request(p)
	if t := s.topic(p.Data); one != nil && t != nil {
		f := newFeed(one, p, t)
		one.feeds = append(one.feeds, f)
		s.push(f)
	}
}

func (s *Server) got(p payloads.Payload) {
	one := s.sessionOf(p)
	if one == nil {
		return
	}
	if f := one.feed(p.Number); f != nil && f.advance(p.Position) {
		s.push(f)
	}
}

func (s *Server) done(p payloads.Payload) {
	if one := s.sessionOf(p); one != nil {
		one.feeds = slices.DeleteFunc(one.feeds, func(f *feed) bool { return f.number == p.Number })
		one.answers = slices.DeleteFunc(one.answers, func(answer payloads.Payload) bool { return answer.Number == p.Number })
	}
}

// sessionOf gives the session that a payload is of, and makes it the one that is
// spoken to. If there is none (any more), the client is told.
func (s *Server) sessionOf(p payloads.Payload) *session {
	one := s.sessions[p.Token]
	if one == nil || one.number != p.Session {
		s.post(payloads.Payload{Kind: payloads.Unknown, Token: p.Token, Session: p.Session})
		return nil
	}
	if s.current != one {
		s.current = one
		s.speak()
	}
	return one
}

// push says what a stream needs next: its end, or values, of which at most Window
// are under way.
func (s *Server) push(f *feed) {
	t := f.topic
	switch {
	case f.missed:
		s.post(f.payload(payloads.Missed, 0))
	case f.got+1 < t.first():
		s.post(f.payload(payloads.Lost, f.got+1))
	case t.finished && f.got == t.count:
		s.post(f.payload(payloads.Finished, t.count))
	default:
		for most := min(t.count, f.got+uint64(s.config.Window)); f.sent < most && s.post(f.item(f.sent+1)); {
			f.sent++
		}
	}
}

// Publish puts a value behind a topic's others (P9).
func (s *Server) Publish(topic string, value string) api.Errno {
	t, e := s.unfinished(topic)
	if e != api.OK {
		return e
	}
	data, e := values.Encode(s.items, t.base, value)
	if e != api.OK {
		return e
	}
	t.add(data, s.config.Retain)
	s.pushAll(t)
	return api.OK
}

// Finish ends a topic (P9).
func (s *Server) Finish(topic string) api.Errno {
	t, e := s.unfinished(topic)
	if e != api.OK {
		return e
	}
	t.finished = true
	s.pushAll(t)
	return api.OK
}

func (s *Server) unfinished(name string) (*topic, api.Errno) {
	t := s.topic(name)
	if t == nil {
		return nil, api.ErrTopic
	}
	if t.finished {
		return nil, api.ErrClosed
	}
	return t, api.OK
}

func (s *Server) topic(name string) *topic {
	place := slices.IndexFunc(s.topics, func(t *topic) bool { return t.name == name })
	if place < 0 {
		return nil
	}
	return s.topics[place]
}

func (s *Server) pushAll(t *topic) {
	if s.current == nil {
		return
	}
	for _, f := range s.current.feeds {
		if f.topic == t {
			s.push(f)
		}
	}
}

// Restart forgets all sessions, and the questions that Next has not given (P9).
func (s *Server) Restart() {
	clear(s.sessions)
	s.waits = nil
	s.quit()
}
