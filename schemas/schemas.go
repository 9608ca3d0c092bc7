// Package schemas reads schemas: their items, and where one is at fault.
package schemas

import (
	"slices"

	"courier/api"
)

// Kind is what an item is.
type Kind int

const (
	Message Kind = iota
	Enum
	Stream
	Call
)

// Shape is how often a field has a value of its base.
type Shape int

const (
	Plain Shape = iota // once
	Opt                // once or not at all
	List               // any number of times
)

// Name is a NAME and the place of its first byte in the schema.
type Name struct {
	Text string
	At   int
}

// Number is a NUMBER and the place of its first byte in the schema.
type Number struct {
	Value, At int
}

// Field is a field of a message.
type Field struct {
	Number Number
	Name   Name
	Shape  Shape
	Base   Name
}

// Item is one item of a schema; only what its kind has is not empty.
type Item struct {
	Kind   Kind
	Name   Name
	Fields []Field // of a message
	Names  []Name  // of an enum
	Base   Name    // of a stream its values' type, of a call its question's
	Answer Name    // of a call
}

// Read gives the items of a schema and OK, or an error and the place that
// belongs to it (P3).
func Read(text string) ([]Item, api.Errno, int) {
	if len(text) > api.MaxSchema {
		return nil, api.ErrLong, 0
	}
	items, at := parse(text)
	if at >= 0 {
		return nil, api.ErrSyntax, at
	}
	if places := nameFaults(items); len(places) > 0 {
		return nil, api.ErrName, slices.Min(places)
	}
	return items, api.OK, 0
}

// HasBase tells whether a base is one that every schema has, or one of these
// items.
func HasBase(items []Item, base string) bool {
	return isBuiltin(base) || findType(items, base) >= 0
}

// Type gives the message or enum of that name.
func Type(items []Item, name string) (Item, bool) {
	place := findType(items, name)
	if place < 0 {
		return Item{}, false
	}
	return items[place], true
}

// Find gives the item of that kind and name; Type is for messages and enums, which
// share their names.
func Find(items []Item, kind Kind, name string) (Item, bool) {
	place := slices.IndexFunc(items, func(item Item) bool {
		return item.Kind == kind && item.Name.Text == name
	})
	if place < 0 {
		return Item{}, false
	}
	return items[place], true
}

// Choices gives the texts of an enum's NAMEs.
func (item Item) Choices() []string {
	var texts []string
	for _, name := range item.Names {
		texts = append(texts, name.Text)
	}
	return texts
}

func isBuiltin(base string) bool {
	return base == "int" || base == "bool" || base == "text"
}

func isType(item Item) bool { return item.Kind == Message || item.Kind == Enum }

// findType gives the index of the first message or enum of that name, or -1.
func findType(items []Item, name string) int {
	return slices.IndexFunc(items, func(item Item) bool {
		return isType(item) && item.Name.Text == name
	})
}
