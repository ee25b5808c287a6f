package syntax

import "slices"

// Equal reports whether two lists of protocols are equal.
func Equal(a, b []Protocol) bool { return slices.EqualFunc(a, b, sameProtocol) }

func sameProtocol(a, b Protocol) bool {
	return a.Name == b.Name &&
		slices.Equal(a.Roles, b.Roles) &&
		slices.EqualFunc(a.Messages, b.Messages, sameMessage) &&
		sameItems(a.Body, b.Body)
}

func sameMessage(a, b Message) bool {
	return a.Name == b.Name && slices.Equal(a.Fields, b.Fields) && slices.Equal(a.Where, b.Where)
}

// pair is a pair of lists of n items, by their first ones.
type pair struct {
	a, b *Item
	n    int
}

// sameItems compares items with everything in their blocks. It compares no pair of lists again, so it comes to an end even if blocks contain themselves.
func sameItems(a, b []Item) bool {
	met := map[pair]bool{}
	for left := [][2][]Item{{a, b}}; len(left) > 0; {
		a, b := left[len(left)-1][0], left[len(left)-1][1]
		left = left[:len(left)-1]
		if len(a) != len(b) {
			return false
		}
		if len(a) == 0 || met[pair{&a[0], &b[0], len(a)}] {
			continue
		}
		met[pair{&a[0], &b[0], len(a)}] = true
		if !slices.EqualFunc(a, b, sameHead) {
			return false
		}
		for i := range a {
			for j := range a[i].Blocks {
				left = append(left, [2][]Item{a[i].Blocks[j], b[i].Blocks[j]})
			}
		}
	}
	return true
}

// sameHead reports whether two items are equal, but for what is in their blocks.
func sameHead(a, b Item) bool {
	return a.Kind == b.Kind &&
		a.From == b.From &&
		slices.Equal(a.To, b.To) &&
		a.Name == b.Name &&
		a.As == b.As &&
		a.Ticks == b.Ticks &&
		len(a.Blocks) == len(b.Blocks)
}
