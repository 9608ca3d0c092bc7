// Package courier: typed streams that go on behind broken connections: see DOC.md.
package courier

import (
	"courier/api"
	"courier/ends"
	"courier/frames"
	"courier/schemas"
	"courier/values"
)

// Deframer takes frames out of bytes that come in pieces.
type Deframer struct {
	cutter frames.Cutter
}

// Server has topics, and answers questions.
type Server struct {
	made *ends.Server
}

// Client reads streams, and asks.
type Client struct {
	made *ends.Client
}

// Check tells whether a text is a schema (P3).
func Check(schema string) (api.Errno, int) {
	_, e, at := schemas.Read(schema)
	return e, at
}

// Encode gives the bytes of a value (P4).
func Encode(schema string, base string, value string) ([]byte, api.Errno) {
	items, e, _ := schemas.Read(schema)
	if e != api.OK {
		return nil, api.ErrSchema
	}
	return values.Encode(items, base, value)
}

// Decode gives the value of bytes (P5).
func Decode(schema string, base string, data []byte) (string, api.Errno) {
	items, e, _ := schemas.Read(schema)
	if e != api.OK {
		return "", api.ErrSchema
	}
	return values.Decode(items, base, data)
}

// Frame gives the frame of a payload (P6).
func Frame(payload []byte) ([]byte, api.Errno) {
	return frames.Wrap(payload)
}

// NewDeframer makes one that has had no bytes (P6).
func NewDeframer() *Deframer {
	return &Deframer{}
}

// Feed takes bytes (P6).
func (d *Deframer) Feed(chunk []byte) ([][]byte, api.Errno) {
	if d == nil {
		// No call gives such a one, but none may panic at it (P1).
		return nil, api.ErrFrame
	}
	return d.cutter.Feed(chunk)
}

// NewServer makes a server (P7).
func NewServer(schema string, c api.Config) (*Server, api.Errno) {
	made, e := ends.NewServer(schema, c)
	if e != api.OK {
		return nil, e
	}
	return &Server{made}, api.OK
}

// end gives one without topics, on which no connection comes up, for a server
// that NewServer did not make: no call may panic at it (P1).
func (s *Server) end() *ends.Server {
	if s == nil || s.made == nil {
		return &ends.Server{}
	}
	return s.made
}

// Up tells of a connection (P8).
func (s *Server) Up(conn int) api.Errno { return s.end().Up(conn) }

// Down tells that it is no more (P8).
func (s *Server) Down(conn int) api.Errno { return s.end().Down(conn) }

// Tick lets time go by (P8).
func (s *Server) Tick() { s.end().Tick() }

// Receive takes a frame (P8).
func (s *Server) Receive(conn int, frame []byte) api.Errno { return s.end().Receive(conn, frame) }

// Out gives the frames that are to go out (P8).
func (s *Server) Out() [][]byte { return s.end().Out() }

// Publish puts a value behind a topic's others (P9).
func (s *Server) Publish(topic string, value string) api.Errno { return s.end().Publish(topic, value) }

// Finish ends a topic (P9).
func (s *Server) Finish(topic string) api.Errno { return s.end().Finish(topic) }

// Next gives the oldest question that has come (P12).
func (s *Server) Next() (api.Question, bool) { return s.end().Next() }

// Reply answers a question (P12).
func (s *Server) Reply(id int, value string) api.Errno { return s.end().Reply(id, value) }

// Restart forgets all sessions (P9).
func (s *Server) Restart() { s.end().Restart() }

// NewClient makes a client (P7).
func NewClient(schema string, c api.Config, token uint64) (*Client, api.Errno) {
	made, e := ends.NewClient(schema, c, token)
	if e != api.OK {
		return nil, e
	}
	return &Client{made}, api.OK
}

// end gives one without topics, on which no connection comes up, for a client
// that NewClient did not make: no call may panic at it (P1).
func (c *Client) end() *ends.Client {
	if c == nil || c.made == nil {
		return &ends.Client{}
	}
	return c.made
}

// Up tells of a connection (P8).
func (c *Client) Up(conn int) api.Errno { return c.end().Up(conn) }

// Down tells that it is no more (P8).
func (c *Client) Down(conn int) api.Errno { return c.end().Down(conn) }

// Tick lets time go by (P8).
func (c *Client) Tick() { c.end().Tick() }

// Receive takes a frame (P8).
func (c *Client) Receive(conn int, frame []byte) api.Errno { return c.end().Receive(conn, frame) }

// Out gives the frames that are to go out (P8).
func (c *Client) Out() [][]byte { return c.end().Out() }

// Subscribe begins a stream (P10).
func (c *Client) Subscribe(topic string, cursor string) (int, api.Errno) {
	return c.end().Subscribe(topic, cursor)
}

// Poll gives a stream's next event (P10).
func (c *Client) Poll(stream int) (api.Event, api.Errno) { return c.end().Poll(stream) }

// Call asks a question (P12).
func (c *Client) Call(name string, value string) (int, api.Errno) { return c.end().Call(name, value) }

// Answer gives a call's next event (P12).
func (c *Client) Answer(call int) (api.Event, api.Errno) { return c.end().Answer(call) }
