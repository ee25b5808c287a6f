package value_test

import (
	"fmt"
	"reflect"
	"regexp"
	"slices"
	"strings"
	"testing"

	"farandole/api"
	"farandole/value"
)

func num(n int) api.Value { return api.Value{Kind: api.SortInt, N: n} }

func text(s string) api.Value { return api.Value{Kind: api.SortText, S: s} }

func ints(lo, hi int) api.Sort { return api.Sort{Kind: api.SortInt, Lo: lo, Hi: hi} }

func texts(lo, hi int) api.Sort { return api.Sort{Kind: api.SortText, Lo: lo, Hi: hi} }

// question has arguments for all functions.
type question struct {
	sort   api.Sort
	a, b   api.Value
	s      string
	fields []api.Field
	l, m   []api.Value
}

// answers has what all functions return.
type answers struct {
	valid, validSort, fits, same, fitsAll bool
	number, compare                       int
	least, clamped, parsed                api.Value
	leastE, clampE, parseE                api.Errno
	leastAll, list                        []api.Value
	leastAllE, listE                      api.Errno
	shown, shownList                      string
}

func answersOf(q question) (r answers) {
	r.valid, r.validSort, r.number = value.Valid(q.a), value.ValidSort(q.sort), value.Number(q.a)
	r.fits, r.compare, r.same, r.fitsAll = value.Fits(q.sort, q.a), value.Compare(q.a, q.b), value.Same(q.l, q.m), value.FitsAll(q.fields, q.l)
	r.least, r.leastE = value.Least(q.sort)
	r.clamped, r.clampE = value.Clamp(q.sort, q.a)
	r.parsed, r.parseE = value.Parse(q.s)
	r.leastAll, r.leastAllE = value.LeastAll(q.fields)
	r.list, r.listE = value.ParseList(q.s)
	r.shown, r.shownList = value.Show(q.a), value.ShowList(q.l)
	return r
}

// equal compares answers; nil and empty lists are equal.
func (r answers) equal(other answers) bool {
	lists := slices.Equal(r.leastAll, other.leastAll) && slices.Equal(r.list, other.list)
	r.leastAll, r.list, other.leastAll, other.list = nil, nil, nil, nil
	return lists && reflect.DeepEqual(r, other)
}

// expected has what all functions should return, by their definitions.
func expected(q question) (r answers) {
	r.valid, r.validSort, r.number = isValue(q.a), isSort(q.sort), numberOf(q.a)
	r.fits, r.compare, r.same, r.fitsAll = fits(q.sort, q.a), compare(q.a, q.b), areSame(q.l, q.m), allFit(q.fields, q.l)
	r.least, r.leastE = least(q.sort)
	r.clamped, r.clampE = clamp(q.sort, q.a)
	r.parsed, r.parseE = parse(q.s)
	r.leastAll, r.leastAllE = leastOfAll(q.fields)
	r.list, r.listE = parseList(q.s)
	r.shown, r.shownList = show(q.a), showList(q.l)
	return r
}

// check tests all functions by their definitions.
func check(t *testing.T, q question) {
	t.Helper()
	if got, want := answersOf(q), expected(q); !got.equal(want) {
		t.Fatalf("%+v: got\n%+v, want\n%+v", q, got, want)
	}
}

var (
	validText = regexp.MustCompile(`^[ -~]{0,40}$`)
	integer   = `(?:0|-?[1-9][0-9]*)`
	quoted    = `"(?:[ !#-\[\]-~]|\\["\\])*"`
	element   = regexp.MustCompile(integer + `|` + quoted)
	only      = regexp.MustCompile(`^(?:` + integer + `|` + quoted + `)$`)
	list      = regexp.MustCompile(`^\((?:(?:` + integer + `|` + quoted + `)(?:, (?:` + integer + `|` + quoted + `))*)?\)$`)
	small     = regexp.MustCompile(`^-?([0-9]{1,3}|1000)$`)
	escape    = regexp.MustCompile(`\\(.)`)
	escaped   = regexp.MustCompile(`["\\]`)
)

func isValue(v api.Value) bool {
	return v.Kind == 1 && v.N >= -1000 && v.N <= 1000 && v.S == "" || v.Kind == 2 && v.N == 0 && validText.MatchString(v.S)
}

func isSort(s api.Sort) bool {
	limits := map[int][2]int{1: {-1000, 1000}, 2: {0, 40}}
	l, ok := limits[s.Kind]
	return ok && slices.IsSorted([]int{l[0], s.Lo, s.Hi, l[1]})
}

func numberOf(v api.Value) int { return map[int]int{1: v.N, 2: len(v.S)}[v.Kind] }

func fits(s api.Sort, v api.Value) bool {
	return isSort(s) && isValue(v) && s.Kind == v.Kind && numberOf(v) >= s.Lo && numberOf(v) <= s.Hi
}

// rank has the numbers by which a value is compared, in their order.
func rank(v api.Value) []int {
	l := []int{v.Kind, v.N, len(v.S)}
	for _, c := range []byte(v.S) {
		l = append(l, int(c))
	}
	return l
}

func compare(a, b api.Value) int { return slices.Compare(rank(a), rank(b)) }

func least(s api.Sort) (api.Value, api.Errno) {
	switch {
	case !isSort(s):
		return api.Value{}, api.ErrArg
	case s.Kind == 1:
		return num(s.Lo), api.OK
	}
	return text(strings.Repeat("a", s.Lo)), api.OK
}

// clamp moves a number, or cuts and fills a text, step by step.
func clamp(s api.Sort, v api.Value) (api.Value, api.Errno) {
	if !isSort(s) || !isValue(v) {
		return api.Value{}, api.ErrArg
	}
	if s.Kind != v.Kind {
		return api.Value{}, api.ErrType
	}
	for numberOf(v) < s.Lo {
		if v.Kind == 1 {
			v.N++
		} else {
			v.S += "a"
		}
	}
	for numberOf(v) > s.Hi {
		if v.Kind == 1 {
			v.N--
		} else {
			v.S = v.S[:len(v.S)-1]
		}
	}
	return v, api.OK
}

func show(v api.Value) string {
	switch {
	case !isValue(v):
		return "?"
	case v.Kind == 1:
		return fmt.Sprint(v.N)
	}
	return `"` + escaped.ReplaceAllString(v.S, `\$0`) + `"`
}

func parse(s string) (api.Value, api.Errno) {
	if !only.MatchString(s) {
		return api.Value{}, api.ErrSyntax
	}
	if s[0] != '"' {
		if !small.MatchString(s) {
			return api.Value{}, api.ErrRange
		}
		var n int
		fmt.Sscan(s, &n)
		return num(n), api.OK
	}
	v := text(escape.ReplaceAllString(s[1:len(s)-1], "$1"))
	if len(v.S) > 40 {
		return api.Value{}, api.ErrRange
	}
	return v, api.OK
}

func areSame(a, b []api.Value) bool {
	return len(a) == len(b) && (len(a) == 0 || a[0] == b[0] && areSame(a[1:], b[1:]))
}

func allFit(l []api.Field, v []api.Value) bool {
	for i := range min(len(l), len(v)) {
		if !fits(l[i].Sort, v[i]) {
			return false
		}
	}
	return len(l) == len(v)
}

func leastOfAll(l []api.Field) (out []api.Value, e api.Errno) {
	for _, f := range l {
		v, e := least(f.Sort)
		if e != api.OK {
			return nil, e
		}
		out = append(out, v)
	}
	return out, api.OK
}

func showList(l []api.Value) string {
	s := ""
	for _, v := range l {
		s += ", " + show(v)
	}
	return "(" + strings.TrimPrefix(s, ", ") + ")"
}

func parseList(s string) (out []api.Value, e api.Errno) {
	if !list.MatchString(s) {
		return nil, api.ErrSyntax
	}
	for _, part := range element.FindAllString(s, -1) {
		v, e := parse(part)
		if e != api.OK {
			return nil, api.ErrSyntax
		}
		out = append(out, v)
	}
	if len(out) > 24 {
		return nil, api.ErrLimit
	}
	return out, api.OK
}
