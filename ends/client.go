package ends

import (
	"slices"

	"courier/api"
	"courier/payloads"
	"courier/schemas"
)

// Client reads streams, and asks questions.
type Client struct {
	end
	token   uint64
	attempt uint64 // which session of the client it is, or is to be
	session uint64 // its number at the server; 0 as long as there is none
	silence int    // ticks since something came from the server

	asked []payloads.Payload // the requests that have not come to the server, as far as is known
	next  uint64             // the number of the session's next request

	streams []*stream // those that have not ended
	made    int       // streams so far
	calls   []*call   // those that have not ended
	called  int       // calls so far
}

// NewClient makes a client (P7).
func NewClient(schema string, c api.Config, token uint64) (*Client, api.Errno) {
	shared, e := newEnd(schema, c)
	if e != api.OK {
		return nil, e
	}
	return &Client{end: shared, token: token}, api.OK
}

// Up tells of a connection (P8).
func (c *Client) Up(conn int) api.Errno {
	if !c.raise(conn) {
		return api.ErrConn
	}
	c.speak()
	return api.OK
}

// Tick lets time go by: a session in which nothing came for too long ends.
func (c *Client) Tick() {
	c.silence++
	if c.session != 0 && c.silence >= c.config.Deadline {
		c.leave()
	}
	c.speak()
}

// leave ends the session, and its streams and calls with it (P13). What is asked
// from now on is for the next one: a call that may have come must not come again
// (P12).
func (c *Client) leave() {
	for _, s := range c.streams {
		s.finish(api.Broken)
	}
	for _, one := range c.calls {
		one.finish(api.Event{Kind: api.Broken})
	}
	c.attempt++
	c.session, c.next, c.asked = 0, 0, nil
	c.empty()
}

// speak says all that the server may not know, and at least that the client is
// there.
func (c *Client) speak() {
	if c.session == 0 {
		c.post(payloads.Payload{Kind: payloads.Hello, Token: c.token, Number: c.attempt})
		return
	}
	c.post(c.payload(payloads.Here, 0))
	for _, request := range c.asked {
		c.ask(request)
	}
}

// request has something asked now and till it is known to have come, and gives the
// number that it has in the session.
func (c *Client) request(p payloads.Payload) uint64 {
	p.Number = c.next
	c.next++
	c.asked = append(c.asked, p)
	c.ask(p)
	return p.Number
}

// isFull tells whether no more may be asked, as far as streams and calls share it
// (P10, P12).
func (c *Client) isFull() bool {
	return len(c.streams) >= api.MaxStreams || len(c.asked) >= c.config.Window
}

// ask sends a request, if there is a session to send it in.
func (c *Client) ask(request payloads.Payload) {
	if c.session != 0 {
		request.Token, request.Session = c.token, c.session
		c.post(request)
	}
}

func (c *Client) payload(kind payloads.Kind, number uint64) payloads.Payload {
	return payloads.Payload{Kind: kind, Token: c.token, Session: c.session, Number: number}
}

// Receive takes a frame (P8).
func (c *Client) Receive(conn int, frame []byte) api.Errno {
	if !c.isUp(conn) {
		return api.ErrConn
	}
	if p, ok := open(frame); ok {
		c.take(p)
	}
	return api.OK
}

// take does what a payload asks for. Any one, a late one too, is a sign of the
// server (P11).
func (c *Client) take(p payloads.Payload) {
	does := [...]func(*Client, payloads.Payload){
		payloads.Welcome:  (*Client).welcome,
		payloads.Heard:    (*Client).heard,
		payloads.Item:     (*Client).item,
		payloads.Finished: (*Client).finished,
		payloads.Lost:     (*Client).lost,
		payloads.Missed:   (*Client).missed,
		payloads.Answer:   (*Client).answered,
		payloads.Unknown:  (*Client).unknown,
	}
	if int(p.Kind) >= len(does) || does[p.Kind] == nil {
		return
	}
	c.silence = 0
	does[p.Kind](c, p)
}

// isOurs tells whether a payload is of the session that the client has.
func (c *Client) isOurs(p payloads.Payload) bool {
	return c.session != 0 && p.Token == c.token && p.Session == c.session
}

func (c *Client) welcome(p payloads.Payload) {
	if c.session == 0 && p.Token == c.token && p.Number == c.attempt {
		c.session = p.Session
		c.speak()
	}
}

func (c *Client) heard(p payloads.Payload) {
	if c.isOurs(p) {
		c.forget(p.Number)
	}
}

// forget has the requests below a number not asked any more: they have come.
func (c *Client) forget(below uint64) {
	c.asked = slices.DeleteFunc(c.asked, func(request payloads.Payload) bool { return request.Number < below })
}

func (c *Client) unknown(p payloads.Payload) {
	if c.isOurs(p) {
		c.leave()
		c.speak()
	}
}

func (c *Client) item(p payloads.Payload) {
	if s := c.reader(p); s != nil {
		s.add(c.items, p, c.config.Retain)
	}
	c.tell(p)
}

func (c *Client) finished(p payloads.Payload) {
	if s := c.reader(p); s != nil && s.got == p.Position {
		s.finish(api.Closed)
	}
	c.tell(p)
}

// lost ends a stream only if it needs the value that is lost: the server may not
// know yet that the stream has it.
func (c *Client) lost(p payloads.Payload) {
	if s := c.reader(p); s != nil && s.got < p.Position {
		s.finish(s.cut())
	}
	c.tell(p)
}

func (c *Client) missed(p payloads.Payload) {
	if s := c.reader(p); s != nil {
		s.finish(api.Expired)
	}
	c.tell(p)
}

// reader gives the stream that a payload is for, if its end is not known yet.
func (c *Client) reader(p payloads.Payload) *stream {
	place := slices.IndexFunc(c.streams, func(s *stream) bool { return s.request == p.Number && s.end == api.None })
	if place < 0 || !c.isOurs(p) {
		return nil
	}
	return c.streams[place]
}

// tell answers a payload that was for a stream by how far the stream is. That
// there is such a payload says that the request has come, even if the word of that
// was lost.
func (c *Client) tell(p payloads.Payload) {
	if !c.isOurs(p) {
		return
	}
	c.forget(p.Number + 1)
	s := c.reader(p)
	if s == nil {
		c.post(c.payload(payloads.Done, p.Number))
		return
	}
	answer := c.payload(payloads.Got, p.Number)
	answer.Position = s.got
	c.post(answer)
}

// Subscribe begins a stream (P10).
func (c *Client) Subscribe(topic string, cursor string) (int, api.Errno) {
	item, ok := schemas.Find(c.items, schemas.Stream, topic)
	if !ok {
		return 0, api.ErrTopic
	}
	position, ok := positionOf(item.Name.Text, cursor)
	if !ok {
		return 0, api.ErrCursor
	}
	if c.isFull() {
		return 0, api.ErrFull
	}
	request := c.request(payloads.Payload{Kind: payloads.Subscribe, Position: position, Data: item.Name.Text})
	s := &stream{number: c.made, request: request, topic: item, begin: position, got: position}
	c.streams = append(c.streams, s)
	c.made++
	return s.number, api.OK
}

// Poll gives a stream's next event (P10).
func (c *Client) Poll(number int) (api.Event, api.Errno) {
	if number < 0 || number >= c.made {
		return api.Event{}, api.ErrStream
	}
	place := slices.IndexFunc(c.streams, func(s *stream) bool { return s.number == number })
	if place < 0 {
		return api.Event{}, api.OK
	}
	event := c.streams[place].event()
	if event.Kind != api.None && event.Kind != api.Value {
		c.streams = slices.Delete(c.streams, place, place+1)
	}
	return event, api.OK
}
