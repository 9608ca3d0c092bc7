// Package payloads has what client and server say to one another, and writes and
// reads it as the payloads of frames.
package payloads

import "courier/numbers"

// Kind is what a payload is.
type Kind byte

const (
	// From the client.

	Hello     Kind = iota // asks for a session, its Number-th one (from 0); the other kinds are of a session
	Here                  // the client is there
	Subscribe             // request Number: a stream of the topic Data from Position on
	Call                  // request Number: a question, Data being the call's name, a blank and the value
	Got                   // the stream of request Number has its values up to Position
	Done                  // the stream or call of request Number needs nothing more

	// From the server.

	Welcome  // the session that the client's Number-th Hello asked for
	Heard    // all requests below Number have come; of no session, if Session is 0
	Item     // the value Data at Position, for the stream of request Number
	Finished // its topic ends behind Position
	Lost     // the value at Position is not kept any more
	Missed   // its position was above what there was
	Answer   // the answer Data to the question of request Number
	Unknown  // there is no such session
)

// Payload is one thing that is said. What its kind does not need is empty. It can
// be compared, so that one that waits already is known.
type Payload struct {
	Kind             Kind
	Token            uint64 // of the client
	Session          uint64 // as the server numbers sessions, from 1
	Number, Position uint64
	Data             string
}

// Write gives the bytes of a payload: at most 41 and those of Data, of which a call
// has most.
func Write(p Payload) []byte {
	data := []byte{byte(p.Kind)}
	for _, n := range []uint64{p.Token, p.Session, p.Number, p.Position} {
		data = numbers.Append(data, n)
	}
	return append(data, p.Data...)
}

// Read gives the payload that Write made these bytes of, or false.
func Read(data []byte) (Payload, bool) {
	if len(data) == 0 {
		return Payload{}, false
	}
	p := Payload{Kind: Kind(data[0])}
	rest, ok := data[1:], true
	for _, to := range []*uint64{&p.Token, &p.Session, &p.Number, &p.Position} {
		if *to, rest, ok = numbers.Take(rest); !ok {
			return Payload{}, false
		}
	}
	p.Data = string(rest)
	return p, true
}
