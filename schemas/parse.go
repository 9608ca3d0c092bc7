package schemas

// parser reads a schema token by token. Its methods tell whether what they ask
// for stands there; where one says no, now is the token at fault.
type parser struct {
	text string
	now  token
}

// parse gives the items of a text and -1, or the place where it is no schema.
func parse(text string) ([]Item, int) {
	p := &parser{text: text}
	p.step()
	var items []Item
	for p.now.kind != endToken {
		var item Item
		if !p.item(&item) {
			return nil, p.now.at
		}
		items = append(items, item)
	}
	return items, -1
}

func (p *parser) step() {
	p.now = scan(p.text, p.now.at+len(p.now.text))
}

func (p *parser) item(item *Item) bool {
	switch {
	case p.word("message"):
		item.Kind = Message
		return p.name(&item.Name) && block(p, &item.Fields, p.field)
	case p.word("enum"):
		item.Kind = Enum
		return p.name(&item.Name) && block(p, &item.Names, p.name)
	case p.word("stream"):
		item.Kind = Stream
		return p.name(&item.Name) && p.base(&item.Base)
	case p.word("call"):
		item.Kind = Call
		return p.name(&item.Name) && p.base(&item.Base) && p.base(&item.Answer)
	}
	return false
}

// block reads one or more things in braces.
func block[T any](p *parser, list *[]T, read func(*T) bool) bool {
	if !p.mark(openToken) {
		return false
	}
	for {
		var one T
		if !read(&one) {
			return false
		}
		*list = append(*list, one)
		if p.mark(shutToken) {
			return true
		}
	}
}

func (p *parser) field(field *Field) bool {
	return p.number(&field.Number) && p.name(&field.Name) && p.shape(&field.Shape) && p.base(&field.Base)
}

// shape never says no: a field without a word for its shape is a plain one.
func (p *parser) shape(shape *Shape) bool {
	switch {
	case p.word("opt"):
		*shape = Opt
	case p.word("list"):
		*shape = List
	default:
		*shape = Plain
	}
	return true
}

func (p *parser) mark(kind tokenKind) bool {
	if p.now.kind != kind {
		return false
	}
	p.step()
	return true
}

func (p *parser) word(word string) bool {
	return p.now.text == word && p.mark(nameToken)
}

func (p *parser) name(name *Name) bool {
	*name = Name{p.now.text, p.now.at}
	return !isWord(name.Text) && p.mark(nameToken)
}

func (p *parser) base(base *Name) bool {
	*base = Name{p.now.text, p.now.at}
	return (!isWord(base.Text) || isBuiltin(base.Text)) && p.mark(nameToken)
}

func (p *parser) number(number *Number) bool {
	value, _ := numberOf(p.now.text)
	*number = Number{value, p.now.at}
	return p.mark(numberToken)
}

func isWord(name string) bool {
	switch name {
	case "message", "enum", "stream", "call", "opt", "list":
		return true
	}
	return isBuiltin(name)
}
