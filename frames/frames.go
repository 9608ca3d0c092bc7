// Package frames puts payloads into frames, and takes them out again.
package frames

import (
	"bytes"

	"courier/api"
)

const (
	countBytes = 1 // a count of at most MaxFrame is below 128: a small number of one byte
	sumBytes   = 4
	maxBytes   = countBytes + api.MaxFrame + sumBytes
)

// Wrap gives the frame of a payload (P6).
func Wrap(payload []byte) ([]byte, api.Errno) {
	if !isCount(len(payload)) {
		return nil, api.ErrFrame
	}
	frame := append([]byte{byte(len(payload))}, payload...)
	sum := sumOf(frame)
	return append(frame, byte(sum>>24), byte(sum>>16), byte(sum>>8), byte(sum)), api.OK
}

// Cutter takes payloads out of bytes that come in pieces. What it holds is the
// beginning of one frame; in an array, so that copies of it share nothing.
type Cutter struct {
	held    [maxBytes]byte
	count   int
	spoiled bool
}

// Feed gives the payloads of the frames that the chunk makes whole, and ErrFrame
// if the bytes so far are spoiled (P6).
func (c *Cutter) Feed(chunk []byte) ([][]byte, api.Errno) {
	var payloads [][]byte
	for _, b := range chunk {
		if c.spoiled {
			break
		}
		if payload, ok := c.add(b); ok {
			payloads = append(payloads, payload)
		}
	}
	if c.spoiled {
		return payloads, api.ErrFrame
	}
	return payloads, api.OK
}

// add holds one byte more, and gives the payload if it makes the frame whole.
func (c *Cutter) add(b byte) ([]byte, bool) {
	c.held[c.count] = b
	c.count++
	count := int(c.held[0])
	if !isCount(count) {
		*c = Cutter{spoiled: true}
		return nil, false
	}
	if c.count < countBytes+count+sumBytes {
		return nil, false
	}
	payload, ok := Unwrap(c.held[:c.count])
	*c = Cutter{spoiled: !ok}
	return payload, ok
}

// Unwrap gives the payload of bytes that are one frame. It writes the frame anew,
// as a payload has no other one.
func Unwrap(frame []byte) ([]byte, bool) {
	count := len(frame) - countBytes - sumBytes
	if !isCount(count) {
		return nil, false
	}
	payload := bytes.Clone(frame[countBytes : countBytes+count])
	anew, e := Wrap(payload)
	if e != api.OK || !bytes.Equal(anew, frame) {
		return nil, false
	}
	return payload, true
}

func isCount(n int) bool {
	return 1 <= n && n <= api.MaxFrame
}

func sumOf(data []byte) uint32 {
	register := ^uint32(0)
	for _, b := range data {
		register ^= uint32(b)
		for range 8 {
			fallen := register & 1
			register >>= 1
			if fallen == 1 {
				register ^= 0xEDB88320
			}
		}
	}
	return ^register
}
