package ends

import (
	"slices"

	"courier/api"
	"courier/payloads"
	"courier/schemas"
	"courier/values"
)

// blank stands between a call's name and its value in a payload: no name has one.
const blank = " "

// call is what the client has of a call.
type call struct {
	number  int       // as the caller knows it
	request uint64    // the number of its request, in its session
	answer  string    // the answer's type
	event   api.Event // how it ends; None as long as that is not known
}

// finish says how a call ends, if that is not known yet.
func (one *call) finish(event api.Event) {
	if one.event.Kind == api.None {
		one.event = event
	}
}

// Call asks a question (P12).
func (c *Client) Call(name string, value string) (int, api.Errno) {
	item, ok := schemas.Find(c.items, schemas.Call, name)
	if !ok {
		return 0, api.ErrCall
	}
	data, e := values.Encode(c.items, item.Base.Text, value)
	if e != api.OK {
		return 0, e
	}
	if len(c.calls) >= c.config.Window || c.isFull() {
		return 0, api.ErrFull
	}
	request := c.request(payloads.Payload{Kind: payloads.Call, Data: item.Name.Text + blank + string(data)})
	one := &call{number: c.called, request: request, answer: item.Answer.Text}
	c.calls = append(c.calls, one)
	c.called++
	return one.number, api.OK
}

// answered takes an answer. The server says it till it is told that this is done.
func (c *Client) answered(p payloads.Payload) {
	if !c.isOurs(p) {
		return
	}
	c.forget(p.Number + 1)
	if one := c.asker(p.Number); one != nil {
		if text, e := values.Decode(c.items, one.answer, []byte(p.Data)); e == api.OK {
			one.finish(api.Event{Kind: api.Value, Value: text})
		}
	}
	c.post(c.payload(payloads.Done, p.Number))
}

// asker gives the call of a request of this session, if its end is not known yet:
// one whose end is known may be of an earlier session, with the same number.
func (c *Client) asker(request uint64) *call {
	place := slices.IndexFunc(c.calls, func(one *call) bool { return one.request == request && one.event.Kind == api.None })
	if place < 0 {
		return nil
	}
	return c.calls[place]
}

// Answer gives a call's next event (P12).
func (c *Client) Answer(number int) (api.Event, api.Errno) {
	if number < 0 || number >= c.called {
		return api.Event{}, api.ErrStream
	}
	place := slices.IndexFunc(c.calls, func(one *call) bool { return one.number == number })
	if place < 0 {
		return api.Event{}, api.OK
	}
	event := c.calls[place].event
	if event.Kind != api.None {
		c.calls = slices.Delete(c.calls, place, place+1)
	}
	return event, api.OK
}
