package guard_test

import (
	"slices"
	"testing"

	"farandole/api"
	"farandole/guard"
)

// P14.1: all results for random declarations, values, and what is known, also with changes.
func TestRandomQuestions(t *testing.T) {
	m := newMaker(4)
	good, bad, filled, types := 0, 0, 0, 0
	for i := range 12000 {
		q := m.question(i%2 == 0)
		s := check(t, q)
		if s.check {
			good++
		} else {
			bad++
		}
		if s.fill {
			filled++
		}
		changed := q
		changed.values = m.changed(q.values)
		if check(t, changed).errors[1] == api.ErrType {
			types++
		}
		changed.known = m.changed(q.known)
		check(t, changed)
		changed.label = m.Intn(8) - 1
		changed.known = q.known
		check(t, changed)
	}
	if good < 2000 || bad < 2000 || filled < 2000 || types < 2000 {
		t.Errorf("%d times fulfilled, %d not, %d filled, %d of other sorts", good, bad, filled, types)
	}
}

// P14.2 and P14.3: what Fill returns fulfils the guard; no list of numbers is smaller, even if only one number is.
func TestFilling(t *testing.T) {
	m := newMaker(5)
	yes, no := 0, 0
	for i := range 8000 {
		q := m.question(i%4 == 0)
		fields := q.decls[q.label].Fields
		values, ok := guard.Fill(q.decls, q.label, q.known)
		if !ok {
			no++
			for range 10 {
				if l := m.values(fields); guard.Check(q.decls, q.label, l, q.known) {
					t.Fatalf("%+v, %v: %v fulfils the guard", q.decls, q.known, l)
				}
			}
			continue
		}
		yes++
		if !guard.Check(q.decls, q.label, values, q.known) {
			t.Fatalf("%+v, %v: %v does not fulfil the guard", q.decls, q.known, values)
		}
		for at, v := range values {
			for n := fields[at].Sort.Lo; n < numberOf(v); n++ {
				// The numbers ahead are the same, and those behind are any.
				l := append(slices.Clone(values[:at]), m.values(fields[at:])...)
				if l[at] = num(n); v.Kind == api.SortText {
					l[at] = str(v.S[:n])
				}
				if guard.Check(q.decls, q.label, l, q.known) {
					t.Fatalf("%+v, %v: filled %v, but %v fulfils the guard", q.decls, q.known, values, l)
				}
			}
		}
	}
	if yes < 1000 || no < 1000 {
		t.Errorf("%d guards can be fulfilled, %d can not", yes, no)
	}
}

// P14.5: behind Learn, the variables of the message are those of the values, and all others are as before; learning another message afterwards changes only its own.
func TestLearning(t *testing.T) {
	m := newMaker(6)
	for i := range 4000 {
		decls := m.decls(i%2 == 0)
		known := m.known(decls)
		want := slices.Clone(known)
		for range 6 {
			label := m.Intn(len(decls))
			d := decls[label]
			values := m.values(d.Fields)
			next, e := guard.Learn(decls, label, values, known)
			if e != api.OK {
				t.Fatalf("%+v, %v, %v: %s", decls, known, values, e.Name())
			}
			for j, v := range values {
				want[d.First+j] = v
			}
			if !slices.Equal(next, want) {
				t.Fatalf("%+v, %v, %v: %v, want %v", decls, known, values, next, want)
			}
			known = next
		}
	}
}

// P14.6: what is known of the fields of the message itself does not matter for Check and Fill.
func TestOwnFields(t *testing.T) {
	m := newMaker(7)
	for i := range 6000 {
		q := m.question(i%2 == 0)
		d := q.decls[q.label]
		values, ok := guard.Fill(q.decls, q.label, q.known)
		good := guard.Check(q.decls, q.label, q.values, q.known)
		for _, own := range [][]api.Value{make([]api.Value, len(d.Fields)), m.values(d.Fields), m.values(d.Fields), values} {
			other := slices.Clone(q.known)
			copy(other[d.First:d.First+len(d.Fields)], own)
			l, some := guard.Fill(q.decls, q.label, other)
			if some != ok || !slices.Equal(l, values) || guard.Check(q.decls, q.label, q.values, other) != good {
				t.Fatalf("%+v, %v and %v: %v %v and %v %v", q.decls, q.known, other, values, ok, l, some)
			}
		}
	}
}

// partsOf returns the guards that have one part each.
func partsOf(g api.Guard) []api.Guard {
	var l []api.Guard
	for _, d := range g.Diffs {
		l = append(l, api.Guard{Diffs: []api.Diff{d}})
	}
	for _, pair := range g.Equals {
		l = append(l, api.Guard{Equals: [][2]int{pair}})
	}
	return l
}

// P14.7: values fulfil a guard exactly if they fulfil each of its parts alone.
func TestParts(t *testing.T) {
	m := newMaker(8)
	good, bad := 0, 0
	for i := range 6000 {
		q := m.question(i%2 == 0)
		all := guard.Check(q.decls, q.label, q.values, q.known)
		each := true
		parts := partsOf(q.decls[q.label].Guard)
		for _, g := range parts {
			decls := slices.Clone(q.decls)
			decls[q.label].Guard = g
			each = each && guard.Check(decls, q.label, q.values, q.known)
		}
		if all != each && len(parts) > 0 {
			t.Fatalf("%+v, %v, %v: %v, its parts %v", q.decls, q.values, q.known, all, each)
		}
		if all && len(parts) > 1 {
			good++
		} else if !all {
			bad++
		}
	}
	if good < 500 || bad < 1000 {
		t.Errorf("%d guards of several parts are fulfilled, %d are not", good, bad)
	}
}
