package schemas

import (
	"reflect"
	"strings"
	"testing"

	"courier/api"
)

func TestReadGivesTheItems(t *testing.T) {
	items, e, at := Read("message p{1 x int 7 m list p}enum c{r g}stream t p call a\np opt1 enum opt1{y}message q{3 n opt c}")
	if e != api.OK || at != 0 {
		t.Fatalf("P3: Read = %d, %d", e, at)
	}
	want := []Item{
		{Kind: Message, Name: Name{"p", 8}, Fields: []Field{
			{Number{1, 10}, Name{"x", 12}, Plain, Name{"int", 14}},
			{Number{7, 18}, Name{"m", 20}, List, Name{"p", 27}},
		}},
		{Kind: Enum, Name: Name{"c", 34}, Names: []Name{{"r", 36}, {"g", 38}}},
		{Kind: Stream, Name: Name{"t", 47}, Base: Name{"p", 49}},
		{Kind: Call, Name: Name{"a", 56}, Base: Name{"p", 58}, Answer: Name{"opt1", 60}},
		{Kind: Enum, Name: Name{"opt1", 70}, Names: []Name{{"y", 75}}},
		{Kind: Message, Name: Name{"q", 85}, Fields: []Field{{Number{3, 87}, Name{"n", 89}, Opt, Name{"c", 95}}}},
	}
	if !reflect.DeepEqual(items, want) {
		t.Errorf("P3: Read gives %v, want %v", items, want)
	}
}

func TestReadGivesNoItemsWithAnError(t *testing.T) {
	for text, want := range map[string]api.Errno{
		"enum a { b } enum":                      api.ErrSyntax,
		"enum a { b } enum a { b }":              api.ErrName,
		strings.Repeat(" ", api.MaxSchema+1):     api.ErrLong,
		"enum a { b } message c { 1 x c } enum ": api.ErrSyntax,
	} {
		if items, e, _ := Read(text); items != nil || e != want {
			t.Errorf("P1: Read(%.40q) = %v, %d, want none, %d", text, items, e, want)
		}
	}
}

func TestTypesOfASchema(t *testing.T) {
	items, _, _ := Read("stream a int enum b { a c } call c int int message d { 1 x int }")
	for base, want := range map[string]bool{"int": true, "bool": true, "text": true, "b": true, "d": true, "a": false, "c": false, "x": false, "opt": false, "": false} {
		if got := HasBase(items, base); got != want {
			t.Errorf("HasBase(%q) = %v", base, got)
		}
	}
	if item, ok := Type(items, "b"); !ok || !reflect.DeepEqual(item.Choices(), []string{"a", "c"}) {
		t.Errorf("Type of b = %v, %v", item, ok)
	}
	if item, ok := Type(items, "a"); ok || !reflect.DeepEqual(item, Item{}) {
		t.Errorf("Type of a = %v, %v", item, ok)
	}
}

func TestStreamsAndCallsOfASchema(t *testing.T) {
	items, _, _ := Read("enum a { b } message d { 1 x int } stream a int call c int text stream e d call f d a")
	for name, base := range map[string]string{"a": "int", "e": "d"} {
		if item, ok := Find(items, Stream, name); !ok || item.Kind != Stream || item.Base.Text != base {
			t.Errorf("the stream %s is %v, %v", name, item, ok)
		}
	}
	for name, bases := range map[string][2]string{"c": {"int", "text"}, "f": {"d", "a"}} {
		if item, ok := Find(items, Call, name); !ok || item.Kind != Call || item.Base.Text != bases[0] || item.Answer.Text != bases[1] {
			t.Errorf("the call %s is %v, %v", name, item, ok)
		}
	}
	for kind, names := range map[Kind][]string{Stream: {"", "b", "c", "d", "f", "x", "int"}, Call: {"", "a", "b", "d", "e", "x", "int"}} {
		for _, name := range names {
			if item, ok := Find(items, kind, name); ok || !reflect.DeepEqual(item, Item{}) {
				t.Errorf("of the kind %d, %q is %v, %v", kind, name, item, ok)
			}
		}
	}
}
