package courier_test

import (
	"math/rand"
	"regexp"
	"strconv"
	"strings"

	"courier/api"
)

// A second way to work out what Check answers: the syntax as a table of states,
// the messages that hold themselves by a closed relation.

var (
	bookThing  = regexp.MustCompile(`[a-z0-9]+|[^a-z0-9 \n]`)
	bookName   = regexp.MustCompile(`^[a-z][a-z0-9]{0,11}$`)
	bookNumber = regexp.MustCompile(`^[1-9][0-9]?$`)
)

// bookStates has for each state the classes that may follow, each with the next
// state. Classes: M E S C the words of items, O opt and list, I the bases of
// every schema, N other NAMEs, D NUMBERs, and the braces.
var bookStates = map[string]map[byte]string{
	"start":       {'M': "message", 'E': "enum", 'S': "stream", 'C': "call"},
	"message":     {'N': "messageName"},
	"messageName": {'{': "fields"},
	"fields":      {'D': "number"},
	"number":      {'N': "fieldName"},
	"fieldName":   {'O': "shape", 'I': "plainBase", 'N': "plainBase"},
	"shape":       {'I': "looseBase", 'N': "looseBase"},
	"plainBase":   {'D': "number", '}': "start"},
	"looseBase":   {'D': "number", '}': "start"},
	"enum":        {'N': "enumName"},
	"enumName":    {'{': "names"},
	"names":       {'N': "oneName"},
	"oneName":     {'N': "oneName", '}': "start"},
	"stream":      {'N': "topicName"},
	"topicName":   {'I': "start", 'N': "start"},
	"call":        {'N': "callName"},
	"callName":    {'I': "question", 'N': "question"},
	"question":    {'I': "start", 'N': "start"},
}

func bookClass(thing string) byte {
	switch thing {
	case "message":
		return 'M'
	case "enum":
		return 'E'
	case "stream":
		return 'S'
	case "call":
		return 'C'
	case "opt", "list":
		return 'O'
	case "int", "bool", "text":
		return 'I'
	case "{", "}":
		return thing[0]
	}
	if bookName.MatchString(thing) {
		return 'N'
	}
	if bookNumber.MatchString(thing) {
		return 'D'
	}
	return '?'
}

type bookRelation map[[2]string]bool

// book gathers what a schema says, and the places at fault.
type book struct {
	types, ports, inside map[string]bool
	used                 map[int]string
	has                  bookRelation
	firstAt              map[string]int
	now                  string
	last                 int
	faults               []int
}

func bookCheck(schema string) verdict {
	if len(schema) > api.MaxSchema {
		return verdict{api.ErrLong, 0}
	}
	b := &book{types: map[string]bool{}, ports: map[string]bool{}, used: map[int]string{}, has: bookRelation{}, firstAt: map[string]int{}}
	state := "start"
	for _, span := range bookThing.FindAllStringIndex(schema, -1) {
		thing := schema[span[0]:span[1]]
		next, ok := bookStates[state][bookClass(thing)]
		if !ok {
			return verdict{api.ErrSyntax, span[0]}
		}
		b.note(state, next, thing, span[0])
		state = next
	}
	if state != "start" {
		return verdict{api.ErrSyntax, len(schema)}
	}
	b.close()
	if len(b.faults) > 0 {
		first := b.faults[0]
		for _, at := range b.faults {
			first = min(first, at)
		}
		return verdict{api.ErrName, first}
	}
	return verdict{}
}

func (b *book) note(state, next, thing string, at int) {
	switch {
	case next == "messageName" || next == "enumName":
		b.now = ""
		if !b.types[thing] && next == "messageName" {
			b.now, b.firstAt[thing] = thing, at
		}
		b.once(b.types, thing, at)
		b.inside, b.last = map[string]bool{}, 0
	case next == "topicName" || next == "callName":
		b.once(b.ports, thing, at)
	case next == "fieldName" || next == "oneName":
		b.once(b.inside, thing, at)
	case next == "number":
		number, _ := strconv.Atoi(thing)
		if number <= b.last {
			b.faults = append(b.faults, at)
		}
		b.last = number
	case next == "plainBase" || next == "looseBase" || next == "question" || state == "topicName" || state == "question":
		b.used[at] = thing
		if next == "plainBase" && b.now != "" {
			b.has[[2]string{b.now, thing}] = true
		}
	}
}

func (b *book) once(names map[string]bool, name string, at int) {
	if names[name] {
		b.faults = append(b.faults, at)
	}
	names[name] = true
}

func (b *book) close() {
	for at, base := range b.used {
		if bookClass(base) != 'I' && !b.types[base] {
			b.faults = append(b.faults, at)
		}
	}
	for by := range b.firstAt {
		for from := range b.firstAt {
			for to := range b.firstAt {
				if b.has[[2]string{from, by}] && b.has[[2]string{by, to}] {
					b.has[[2]string{from, to}] = true
				}
			}
		}
	}
	for name, at := range b.firstAt {
		if b.has[[2]string{name, name}] {
			b.faults = append(b.faults, at)
		}
	}
}

var bookWords = map[byte][]string{
	'M': {"message"}, 'E': {"enum"}, 'S': {"stream"}, 'C': {"call"}, 'O': {"opt", "list"}, 'I': {"int", "bool", "text"},
	'N': {"a", "b", "c", "d", "e1", "f2", "g", "h", "abcdefghijkl"}, '{': {"{"}, '}': {"}"},
	'?': {"?", "01", "100", "0", "1a", "abcdefghijklm", "A", "\t"},
}

const bookClasses = "MESCOIND{}?"

// randomSchema goes through the states, seldom another way than they allow.
func randomSchema(source *rand.Rand) string {
	schema, state, number := "", "start", 0
	astray := source.Intn(3) == 0
	for state != "start" || source.Intn(8) > 0 {
		class := bookClasses[source.Intn(len(bookClasses))]
		next, ok := bookStates[state][class]
		if !ok && !(astray && source.Intn(200) == 0) {
			continue
		}
		if next == "fields" {
			number = 0
		}
		schema += randomGap(source) + randomWord(source, class, &number)
		if !ok || astray && source.Intn(100) == 0 {
			break
		}
		state = next
	}
	return strings.TrimPrefix(schema, " ") + randomGap(source)
}

func randomGap(source *rand.Rand) string {
	return []string{" ", " ", "\n", "  ", " \n "}[source.Intn(5)]
}

// randomWord lets numbers mostly rise, so that not all schemas fail by them.
func randomWord(source *rand.Rand, class byte, number *int) string {
	if class == 'D' {
		if *number += 1 + source.Intn(3); source.Intn(30) == 0 {
			*number = 1 + source.Intn(3)
		}
		return strconv.Itoa(min(*number, api.MaxNumber))
	}
	words := bookWords[class]
	return words[source.Intn(len(words))]
}
