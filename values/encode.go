package values

import (
	"slices"
	"strconv"
	"strings"

	"courier/api"
	"courier/numbers"
	"courier/schemas"
)

// encoder reads a value's text from the front. Its methods take what they read
// off rest, and give its bytes, or false if it does not stand there. A depth is
// the one at which a message or list would stand there.
type encoder struct {
	items []schemas.Item
	rest  string
}

func (e *encoder) value(base string, depth int) ([]byte, bool) {
	switch base {
	case "int":
		return e.integer()
	case "bool":
		return e.choice([]string{"false", "true"})
	case "text":
		return e.letters()
	}
	item, ok := schemas.Type(e.items, base)
	if !ok {
		return nil, false
	}
	if item.Kind == schemas.Enum {
		return e.choice(item.Choices())
	}
	return e.message(item.Fields, depth)
}

// integer writes the number anew, as only what comes out of that is the one way
// to write it.
func (e *encoder) integer() ([]byte, bool) {
	run := e.run("-0123456789")
	n, err := strconv.ParseInt(run, 10, 64)
	if err != nil || strconv.FormatInt(n, 10) != run {
		return nil, false
	}
	twice := uint64(n) << 1
	if n < 0 {
		twice = ^twice
	}
	return numbers.Append(nil, twice), true
}

// choice takes the whole run, as one name may be the beginning of another.
func (e *encoder) choice(names []string) ([]byte, bool) {
	place := slices.Index(names, e.run("abcdefghijklmnopqrstuvwxyz0123456789"))
	if place < 0 {
		return nil, false
	}
	return numbers.Append(nil, uint64(place)), true
}

func (e *encoder) letters() ([]byte, bool) {
	if !e.take(`"`) {
		return nil, false
	}
	var data []byte
	for !e.take(`"`) {
		b, ok := e.letter()
		if !ok {
			return nil, false
		}
		data = append(data, b)
	}
	return data, true
}

func (e *encoder) letter() (byte, bool) {
	if e.take(`\`) {
		high, isHigh := e.digit()
		low, isLow := e.digit()
		b := high<<4 | low
		return b, isHigh && isLow && !isPlain(b)
	}
	b, ok := e.next()
	return b, ok && isPlain(b)
}

func (e *encoder) digit() (byte, bool) {
	b, ok := e.next()
	digit := strings.IndexByte(hexDigits, b)
	return byte(digit), ok && digit >= 0
}

func (e *encoder) message(fields []schemas.Field, depth int) ([]byte, bool) {
	if depth > api.MaxNest || !e.take("{") {
		return nil, false
	}
	var data []byte
	between := ""
	for _, field := range fields {
		if !e.take(between + field.Name.Text + ":") {
			if field.Shape == schemas.Opt {
				continue
			}
			return nil, false
		}
		between = ","
		value, ok := e.field(field, depth+1)
		if !ok {
			return nil, false
		}
		data = numbers.Append(data, uint64(field.Number.Value))
		data = appendCounted(data, value)
	}
	return data, e.take("}")
}

func (e *encoder) field(field schemas.Field, depth int) ([]byte, bool) {
	if field.Shape == schemas.List {
		return e.list(field.Base.Text, depth)
	}
	return e.value(field.Base.Text, depth)
}

func (e *encoder) list(base string, depth int) ([]byte, bool) {
	if depth > api.MaxNest || !e.take("[") {
		return nil, false
	}
	var data []byte
	for count := 0; !e.take("]"); count++ {
		if count == api.MaxItems || count > 0 && !e.take(",") {
			return nil, false
		}
		value, ok := e.value(base, depth+1)
		if !ok {
			return nil, false
		}
		data = appendCounted(data, value)
	}
	return data, true
}

// appendCounted puts behind data how many bytes the value has, and these.
func appendCounted(data, value []byte) []byte {
	return append(numbers.Append(data, uint64(len(value))), value...)
}

func (e *encoder) take(start string) bool {
	rest, ok := strings.CutPrefix(e.rest, start)
	e.rest = rest
	return ok
}

func (e *encoder) next() (byte, bool) {
	if e.rest == "" {
		return 0, false
	}
	b := e.rest[0]
	e.rest = e.rest[1:]
	return b, true
}

// run takes as many of these bytes as stand there.
func (e *encoder) run(of string) string {
	run := e.rest[:len(e.rest)-len(strings.TrimLeft(e.rest, of))]
	e.rest = e.rest[len(run):]
	return run
}
