// Package ends has the two ends of connections, server and client, and what they
// keep from one connection to the next.
package ends

import (
	"courier/api"
	"courier/frames"
	"courier/payloads"
	"courier/schemas"
)

// end is what server and client share: what they were made with, the connection,
// and what is to go out over it. One that newEnd did not make has no connection
// ever.
type end struct {
	items  []schemas.Item
	config api.Config

	last int  // the connection that was told last, the greatest one
	had  bool // there was one
	up   bool // it still is

	queue   chan payloads.Payload
	waiting map[payloads.Payload]struct{} // what is in the queue
}

func newEnd(schema string, c api.Config) (end, api.Errno) {
	items, e, _ := schemas.Read(schema)
	if e != api.OK {
		return end{}, api.ErrSchema
	}
	if !within(c.Window, 1, api.MaxWindow) || !within(c.Deadline, api.MinDeadline, api.MaxDeadline) || !within(c.Retain, 1, api.MaxRetain) {
		return end{}, api.ErrConfig
	}
	made := end{items: items, config: c}
	made.empty()
	return made, api.OK
}

func within(n, least, most int) bool {
	return least <= n && n <= most
}

// raise takes a connection for the one that is up, if it may be (P8).
func (e *end) raise(conn int) bool {
	if e.queue == nil || e.had && conn <= e.last {
		return false
	}
	e.last, e.had, e.up = conn, true, true
	e.empty()
	return true
}

// Down tells that a connection is no more (P8).
func (e *end) Down(conn int) api.Errno {
	if !e.isUp(conn) {
		return api.ErrConn
	}
	e.up = false
	e.empty()
	return api.OK
}

func (e *end) isUp(conn int) bool {
	return e.up && conn == e.last
}

// empty throws away what waits: it was for a connection or a session that is no
// more, and what is still needed is said anew.
func (e *end) empty() {
	e.queue = make(chan payloads.Payload, api.MaxOut)
	e.waiting = map[payloads.Payload]struct{}{}
}

// post has a payload wait for Out, and tells whether it does. One that waits
// already is not put in again, so that ticks without an Out pile up nothing.
func (e *end) post(p payloads.Payload) bool {
	if !e.up {
		return false
	}
	if _, ok := e.waiting[p]; ok {
		return true
	}
	select {
	case e.queue <- p:
		e.waiting[p] = struct{}{}
		return true
	default:
		return false
	}
}

// Out gives the frames of what waits (P8).
func (e *end) Out() [][]byte {
	var out [][]byte
	for {
		select {
		case p := <-e.queue:
			delete(e.waiting, p)
			// No payload is too long for a frame.
			frame, _ := frames.Wrap(payloads.Write(p))
			out = append(out, frame)
		default:
			return out
		}
	}
}

// open gives what a frame says, or false if it is none.
func open(frame []byte) (payloads.Payload, bool) {
	data, ok := frames.Unwrap(frame)
	if !ok {
		return payloads.Payload{}, false
	}
	return payloads.Read(data)
}
