package syntax

import (
	"farandole/api"
	"farandole/lex"
)

// Valid reports whether protocols are valid.
func Valid(l []Protocol) bool {
	return all(l, 0, MaxProtocols, validProtocol) && len(canonical(l)) <= api.MaxSource
}

// all reports whether a list has from least to most elements, and a condition holds for each of them.
func all[T any](l []T, least, most int, holds func(x T) bool) bool {
	if !isFrom(len(l), least, most) {
		return false
	}
	for _, x := range l {
		if !holds(x) {
			return false
		}
	}
	return true
}

func validProtocol(x Protocol) bool {
	left := MaxItems
	return lex.IsWord(x.Name) &&
		all(x.Roles, 1, api.MaxRoles, lex.IsWord) &&
		all(x.Messages, 0, api.MaxDecls, validMessage) &&
		validItems(x.Body, 0, &left)
}

func validMessage(x Message) bool {
	return IsPath(x.Name) && all(x.Fields, 0, api.MaxFields, validField) && all(x.Where, 0, MaxAtoms, validAtom)
}

func validField(f api.Field) bool { return lex.IsWord(f.Name) && validSort(f.Sort) }

// validSort reports whether a sort can be written; whether it has values does not matter.
func validSort(s api.Sort) bool {
	switch s.Kind {
	case api.SortInt:
		return isConst(s.Lo) && isConst(s.Hi)
	case api.SortText:
		return isFrom(s.Lo, 0, MaxConst) && isFrom(s.Hi, 0, MaxConst)
	}
	return false
}

func validAtom(a Atom) bool { return validTerm(a.Left) && isOp(a.Op) && validTerm(a.Right) }

func validTerm(t Term) bool {
	switch t.Kind {
	case Const:
		return t.Message == "" && t.Field == "" && isConst(t.N)
	case Ref, Len:
		return (t.Message == "" || IsPath(t.Message)) && lex.IsWord(t.Field) && isConst(t.N)
	}
	return false
}

func isFrom(n, least, most int) bool { return least <= n && n <= most }

func isConst(n int) bool { return isFrom(n, -MaxConst, MaxConst) }

func isOp(s string) bool {
	switch s {
	case "<", "<=", "==", ">=", ">":
		return true
	}
	return false
}

// validItems reports whether items with so many items around them are valid; left is the number of those that may still follow. As blocks may contain themselves, it goes on only while neither there are too many items nor too deep ones.
func validItems(l []Item, around int, left *int) bool {
	if len(l) > *left || len(l) > 0 && around == MaxDepth {
		return false
	}
	*left -= len(l)
	for _, x := range l {
		if !validItem(x) {
			return false
		}
		for _, block := range x.Blocks {
			if !validItems(block, around+1, left) {
				return false
			}
		}
	}
	return true
}

// validItem reports whether an item is valid, but for the items in its blocks.
func validItem(x Item) bool {
	var own Item // has the fields of the kind only
	ok := false
	switch x.Kind {
	case Send:
		own = Item{From: x.From, To: x.To, Name: x.Name}
		ok = lex.IsWord(x.From) && all(x.To, 1, maxReceivers, lex.IsWord) && IsPath(x.Name)
	case Choice:
		own = Item{From: x.From, Ticks: x.Ticks, Blocks: x.Blocks}
		ok = lex.IsWord(x.From) && isFrom(x.Ticks, 0, api.MaxTicks) && isFrom(len(x.Blocks), leastBlocks(x), MaxBlocks)
	case Loop:
		own = Item{Name: x.Name, Blocks: x.Blocks}
		ok = IsPath(x.Name) && len(x.Blocks) == 1
	case Again:
		own = Item{Name: x.Name}
		ok = IsPath(x.Name)
	case Par:
		own = Item{Blocks: x.Blocks}
		ok = isFrom(len(x.Blocks), 2, MaxBlocks)
	case Call:
		own = Item{To: x.To, Name: x.Name, As: x.As}
		ok = lex.IsWord(x.Name) && all(x.To, 1, api.MaxRoles, lex.IsWord) && lex.IsWord(x.As)
	}
	own.Kind = x.Kind
	return ok && sameHead(x, own)
}

// leastBlocks returns the least number of blocks of a choice.
func leastBlocks(x Item) int {
	if x.Ticks > 0 {
		return 2
	}
	return 1
}
