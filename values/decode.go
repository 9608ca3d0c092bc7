package values

import (
	"slices"
	"strconv"
	"strings"

	"courier/api"
	"courier/numbers"
	"courier/schemas"
)

// decoder writes a value's text. Its methods are given all bytes of one value,
// and tell whether they are read as one. A depth is the one at which a message
// or list would stand there.
type decoder struct {
	items []schemas.Item
	text  strings.Builder
}

func (d *decoder) value(base string, data []byte, depth int) bool {
	switch base {
	case "int":
		return d.integer(data)
	case "bool":
		return d.choice([]string{"false", "true"}, data)
	case "text":
		d.letters(data)
		return true
	}
	item, ok := schemas.Type(d.items, base)
	if !ok {
		return false
	}
	if item.Kind == schemas.Enum {
		return d.choice(item.Choices(), data)
	}
	return d.message(item.Fields, data, depth)
}

func (d *decoder) integer(data []byte) bool {
	twice, ok := wholeNumber(data)
	if !ok {
		return false
	}
	n := int64(twice >> 1)
	if twice&1 == 1 {
		n = ^n
	}
	d.text.WriteString(strconv.FormatInt(n, 10))
	return true
}

func (d *decoder) choice(names []string, data []byte) bool {
	place, ok := wholeNumber(data)
	if !ok || place >= uint64(len(names)) {
		return false
	}
	d.text.WriteString(names[place])
	return true
}

func (d *decoder) letters(data []byte) {
	d.text.WriteByte('"')
	for _, b := range data {
		if isPlain(b) {
			d.text.WriteByte(b)
		} else {
			d.text.Write([]byte{'\\', hexDigits[b>>4], hexDigits[b&15]})
		}
	}
	d.text.WriteByte('"')
}

func (d *decoder) message(fields []schemas.Field, data []byte, depth int) bool {
	parts, ok := partsOf(data)
	if !ok || depth > api.MaxNest {
		return false
	}
	d.text.WriteByte('{')
	between := ""
	for _, field := range fields {
		place := slices.IndexFunc(parts, func(p part) bool { return p.number == uint64(field.Number.Value) })
		if place < 0 {
			if field.Shape == schemas.Opt {
				continue
			}
			return false
		}
		d.text.WriteString(between + field.Name.Text + ":")
		between = ","
		if !d.field(field, parts[place].value, depth+1) {
			return false
		}
	}
	d.text.WriteByte('}')
	return true
}

func (d *decoder) field(field schemas.Field, data []byte, depth int) bool {
	if field.Shape == schemas.List {
		return d.list(field.Base.Text, data, depth)
	}
	return d.value(field.Base.Text, data, depth)
}

func (d *decoder) list(base string, data []byte, depth int) bool {
	if depth > api.MaxNest {
		return false
	}
	d.text.WriteByte('[')
	for count := 0; len(data) > 0; count++ {
		value, rest, ok := takeCounted(data)
		if !ok || count == api.MaxItems {
			return false
		}
		if count > 0 {
			d.text.WriteByte(',')
		}
		if !d.value(base, value, depth+1) {
			return false
		}
		data = rest
	}
	d.text.WriteByte(']')
	return true
}

// part is a field as it stands in a message's bytes, known to the schema or not.
type part struct {
	number uint64
	value  []byte
}

func partsOf(data []byte) ([]part, bool) {
	var parts []part
	last := uint64(0)
	for len(data) > 0 {
		number, behind, isNumber := numbers.Take(data)
		value, rest, isCounted := takeCounted(behind)
		if !isNumber || !isCounted || number <= last || number > api.MaxNumber {
			return nil, false
		}
		parts = append(parts, part{number, value})
		last, data = number, rest
	}
	return parts, true
}

// takeCounted gives the bytes whose count data begins with, and what is behind
// them.
func takeCounted(data []byte) (value, rest []byte, ok bool) {
	count, behind, ok := numbers.Take(data)
	if !ok || count > uint64(len(behind)) {
		return nil, nil, false
	}
	return behind[:count], behind[count:], true
}

// wholeNumber gives the small number that all the bytes are.
func wholeNumber(data []byte) (uint64, bool) {
	n, rest, ok := numbers.Take(data)
	return n, ok && len(rest) == 0
}
