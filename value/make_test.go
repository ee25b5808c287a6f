package value_test

import (
	"math"
	"math/rand"
	"strconv"
	"strings"

	"farandole/api"
)

// corners returns values at the limits and beyond them, of all kinds.
func corners() []api.Value {
	var l []api.Value
	for _, kind := range []int{math.MinInt, -1, 0, 1, 2, 3, math.MaxInt} {
		for _, n := range []int{math.MinInt, -1001, -1000, -1, 0, 1, 40, 1000, 1001, math.MaxInt} {
			for _, s := range []string{"", " ", "a", "b", "~", "\x00", "\x1f", "\x7f", "\xff", "é", "aa", "ab", "a\n", "\"\\", strings.Repeat("a", 39), strings.Repeat("z", 40), strings.Repeat("a", 39) + "\x80", strings.Repeat("a", 41), strings.Repeat("é", 20)} {
				l = append(l, api.Value{Kind: kind, N: n, S: s})
			}
		}
	}
	return l
}

// sorts returns sorts at the limits and beyond them, of all kinds.
func sorts() []api.Sort {
	var l []api.Sort
	limits := []int{math.MinInt, -1001, -1000, -999, -1, 0, 1, 2, 39, 40, 41, 999, 1000, 1001, math.MaxInt}
	for _, kind := range []int{math.MinInt, -1, 0, 1, 2, 3, math.MaxInt} {
		for _, lo := range limits {
			for _, hi := range limits {
				l = append(l, api.Sort{Kind: kind, Lo: lo, Hi: hi})
			}
		}
	}
	return l
}

// eachString calls a function for all sequences of n parts.
func eachString(parts []string, n int, do func(s string)) {
	if n == 0 {
		do("")
		return
	}
	eachString(parts, n-1, func(s string) {
		for _, part := range parts {
			do(s + part)
		}
	})
}

// maker makes random arguments.
type maker struct{ *rand.Rand }

func newMaker(seed int64) maker { return maker{rand.New(rand.NewSource(seed))} }

// some tells whether something happens that happens once in n times.
func (m maker) some(n int) bool { return m.Intn(n) == 0 }

// printable returns n random bytes from 32 to 126, among them many that are escaped.
func (m maker) printable(n int) string {
	var b strings.Builder
	for range n {
		if m.some(3) {
			b.WriteByte(`"\`[m.Intn(2)])
		} else {
			b.WriteByte(byte(32 + m.Intn(95)))
		}
	}
	return b.String()
}

// valid returns a valid value.
func (m maker) valid() api.Value {
	if m.some(2) {
		return num((m.Intn(2001) - 1000) >> m.Intn(11))
	}
	return text(m.printable(m.Intn(41) >> m.Intn(6)))
}

// value returns a value that may not be valid.
func (m maker) value() api.Value {
	v := m.valid()
	if m.some(6) {
		v.Kind += m.Intn(4) - 1
	}
	if m.some(6) {
		v.N += m.Intn(2003) - 1001
	}
	if m.some(6) {
		v.S += m.printable(m.Intn(41))
	}
	if m.some(8) {
		v.S += string([]byte{byte(m.Intn(256))})
	}
	return v
}

// sort returns a valid sort.
func (m maker) sort() api.Sort {
	s, shift := ints(m.Intn(2001)-1000, m.Intn(2001)-1000), m.Intn(9)
	s.Lo, s.Hi = s.Lo>>shift, s.Hi>>shift
	if m.some(2) {
		s = texts(m.Intn(41), m.Intn(41))
	}
	s.Lo, s.Hi = min(s.Lo, s.Hi), max(s.Lo, s.Hi)
	return s
}

// sortOf returns a sort that a value may fit.
func (m maker) sortOf(v api.Value) api.Sort {
	s := api.Sort{Kind: v.Kind, Lo: numberOf(v) + m.Intn(7) - 5, Hi: numberOf(v) + m.Intn(7) - 1}
	if m.some(9) {
		s.Kind += m.Intn(3) - 1
	}
	return s
}

// length returns a random length of a list, up to 29.
func (m maker) length() int { return m.Intn(30) >> m.Intn(5) }

// list returns values, nearly all of which are valid.
func (m maker) list() []api.Value {
	var l []api.Value
	for range m.length() {
		v := m.valid()
		if m.some(20) {
			v = m.value()
		}
		l = append(l, v)
	}
	return l
}

// fields returns fields, most of which values fit.
func (m maker) fields(l []api.Value) []api.Field {
	var out []api.Field
	for _, v := range l {
		f := api.Field{Name: m.printable(2), Sort: api.Sort{Kind: v.Kind, Lo: numberOf(v), Hi: numberOf(v)}}
		if m.some(10) {
			f.Sort = m.sortOf(v)
		}
		if m.some(10) {
			f.Sort = m.sort()
		}
		out = append(out, f)
	}
	if m.some(10) {
		out = append(out, api.Field{Sort: m.sort()})
	}
	return out[min(len(out), m.Intn(20)/19):]
}

// notation returns the notation of a value, or one of an integer or of a text that is too large.
func (m maker) notation() string {
	switch m.Intn(20) {
	case 0:
		return strconv.Itoa(m.Intn(4001) - 2000)
	case 1:
		return `"` + escaped.ReplaceAllString(m.printable(38+m.Intn(6)), `\$0`) + `"`
	case 2:
		return "-" + strconv.Itoa(m.Int()) + strconv.Itoa(m.Int())
	}
	return show(m.valid())
}

// notations returns the notation of a list, in which some values may be too large.
func (m maker) notations() string {
	var l []string
	for range m.length() {
		if m.some(4) {
			l = append(l, m.notation())
		} else {
			l = append(l, show(m.valid()))
		}
	}
	return "(" + strings.Join(l, ", ") + ")"
}

// changed returns a string with some bytes taken away, doubled or replaced.
func (m maker) changed(s string) string {
	for range 1 + m.Intn(2) {
		i := m.Intn(len(s) + 1)
		k := min(len(s), i+m.Intn(3))
		add := []string{"", "", s[i:k], s[i:k] + s[i:k], `"`, `\`, `\\`, "-", "0", ",", ", ", " ", "(", ")", "1", "\x1f", "\x7f", "é", "?", "+"}
		s = s[:i] + add[m.Intn(len(add))] + s[k:]
	}
	return s
}

// question returns random arguments that have to do with each other.
func (m maker) question() question {
	q := question{a: m.value(), s: m.notation(), l: m.list()}
	q.b = q.a
	if m.some(2) {
		q.b = m.value()
	}
	q.sort = m.sortOf(q.a)
	if m.some(2) {
		q.sort = m.sort()
	}
	if m.some(2) {
		q.s = m.notations()
	}
	if m.some(2) {
		q.s = m.changed(q.s)
	}
	q.fields = m.fields(q.l)
	q.m = append(q.m, q.l...)
	if i := m.Intn(len(q.m) + 1); i < len(q.m) && m.some(2) {
		q.m[i] = m.value()
	} else if m.some(2) {
		q.m = append(q.m[:i], m.list()...)
	}
	return q
}
