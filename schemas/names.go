package schemas

// nameFaults gives the places of all NAMEs and NUMBERs that are at fault, in no
// order: whether a base or a message is at fault may hang on items behind it.
func nameFaults(items []Item) []int {
	places := repeats(itemNames(items))
	for i, item := range items {
		places = append(places, repeats(fieldNames(item.Fields))...)
		places = append(places, repeats(item.Names)...)
		places = append(places, sunkNumbers(item.Fields)...)
		places = append(places, unknownBases(items, item)...)
		if item.Kind == Message && holds(items, i, i, make([]bool, len(items))) {
			places = append(places, item.Name.At)
		}
	}
	return places
}

// itemNames gives two groups, as a stream or call may have a type's name.
func itemNames(items []Item) (types, topicsAndCalls []Name) {
	for _, item := range items {
		if isType(item) {
			types = append(types, item.Name)
		} else {
			topicsAndCalls = append(topicsAndCalls, item.Name)
		}
	}
	return types, topicsAndCalls
}

func fieldNames(fields []Field) []Name {
	var names []Name
	for _, field := range fields {
		names = append(names, field.Name)
	}
	return names
}

// repeats gives the places of the names that an earlier one of their group is
// the same as.
func repeats(groups ...[]Name) []int {
	var places []int
	for _, group := range groups {
		seen := map[string]int{}
		for _, name := range group {
			if seen[name.Text]++; seen[name.Text] > 1 {
				places = append(places, name.At)
			}
		}
	}
	return places
}

// sunkNumbers gives the places of the numbers that are not above the one ahead.
func sunkNumbers(fields []Field) []int {
	var places []int
	for i := 1; i < len(fields); i++ {
		if fields[i].Number.Value <= fields[i-1].Number.Value {
			places = append(places, fields[i].Number.At)
		}
	}
	return places
}

func unknownBases(items []Item, item Item) []int {
	var places []int
	for _, base := range bases(item) {
		if !HasBase(items, base.Text) {
			places = append(places, base.At)
		}
	}
	return places
}

func bases(item Item) []Name {
	switch item.Kind {
	case Stream:
		return []Name{item.Base}
	case Call:
		return []Name{item.Base, item.Answer}
	}
	var names []Name
	for _, field := range item.Fields {
		names = append(names, field.Base)
	}
	return names
}

// holds tells whether each value of the item from has one of the item whole in
// it. No item is entered twice, so that it ends where messages that hold one
// another do not hold whole.
func holds(items []Item, from, whole int, been []bool) bool {
	for _, field := range items[from].Fields {
		next := findType(items, field.Base.Text)
		if field.Shape != Plain || next < 0 || been[next] {
			continue
		}
		been[next] = true
		if next == whole || holds(items, next, whole, been) {
			return true
		}
	}
	return false
}
