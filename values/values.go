// Package values turns the texts of values into their bytes, and back.
package values

import (
	"courier/api"
	"courier/schemas"
)

// Encode gives the bytes of a value of a base of the schema that has these
// items (P4).
func Encode(items []schemas.Item, base, text string) ([]byte, api.Errno) {
	if !schemas.HasBase(items, base) {
		return nil, api.ErrType
	}
	if len(text) > api.MaxText {
		return nil, api.ErrLong
	}
	e := &encoder{items: items, rest: text}
	data, ok := e.value(base, 1)
	if !ok || e.rest != "" {
		return nil, api.ErrValue
	}
	if len(data) > api.MaxValue {
		return nil, api.ErrLong
	}
	return data, api.OK
}

// Decode gives the text of the value that the bytes are read as (P5).
func Decode(items []schemas.Item, base string, data []byte) (string, api.Errno) {
	if !schemas.HasBase(items, base) {
		return "", api.ErrType
	}
	if len(data) > api.MaxValue {
		return "", api.ErrData
	}
	d := &decoder{items: items}
	if !d.value(base, data, 1) || d.text.Len() > api.MaxText {
		return "", api.ErrData
	}
	return d.text.String(), api.OK
}

const hexDigits = "0123456789abcdef"

// isPlain tells whether a byte of a text is written as itself.
func isPlain(b byte) bool {
	return 32 <= b && b <= 126 && b != '"' && b != '\\'
}
