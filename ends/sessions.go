package ends

import (
	"slices"

	"courier/payloads"
)

// session is what the server knows of what a client has begun with it.
type session struct {
	token   uint64
	attempt uint64 // which one of the client's it is
	number  uint64 // which one of the server's it is
	silence int    // ticks since something came from the client
	next    uint64 // the number of the request that is to come
	feeds   []*feed
	answers []payloads.Payload // those that the client may not have
}

func (one *session) payload(kind payloads.Kind, number uint64) payloads.Payload {
	return payloads.Payload{Kind: kind, Token: one.token, Session: one.number, Number: number}
}

func (one *session) heard() payloads.Payload {
	return one.payload(payloads.Heard, one.next)
}

func (one *session) feed(number uint64) *feed {
	place := slices.IndexFunc(one.feeds, func(f *feed) bool { return f.number == number })
	if place < 0 {
		return nil
	}
	return one.feeds[place]
}

// feed is what the server knows of a client's stream.
type feed struct {
	session *session
	number  uint64 // of the request that began it
	topic   *topic
	got     uint64 // up to where the client has the values
	sent    uint64 // up to where they are under way
	missed  bool   // when the request came, it asked for more than there was; it may not go on when there is (P11)
}

func newFeed(one *session, p payloads.Payload, t *topic) *feed {
	return &feed{session: one, number: p.Number, topic: t, got: p.Position, sent: p.Position, missed: p.Position > t.count}
}

// advance takes what the client says that it has, and tells whether that is more
// than was known: late words of it say less.
func (f *feed) advance(position uint64) bool {
	if position <= f.got {
		return false
	}
	f.got = position
	f.sent = max(f.sent, f.got)
	return true
}

func (f *feed) payload(kind payloads.Kind, position uint64) payloads.Payload {
	p := f.session.payload(kind, f.number)
	p.Position = position
	return p
}

func (f *feed) item(position uint64) payloads.Payload {
	p := f.payload(payloads.Item, position)
	p.Data = string(f.topic.at(position))
	return p
}
