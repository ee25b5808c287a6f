package vclock_test

import (
	"math"
	"testing"

	"farandole/api"
	"farandole/vclock"
)

// numbers returns roles and numbers of roles, possible and impossible ones.
func numbers() []int {
	return []int{
		0, 1, 2, 3, 4, 5, 6, 7, 8, 100, 1000, math.MaxInt32, 1 << 32, 1<<32 + 1, math.MaxInt - 1, math.MaxInt,
		-1, -2, -6, -7, math.MinInt32, -1 << 32, math.MinInt, math.MinInt + 1,
	}
}

// P7.1: a clock is valid if it has 1 to 6 entries from 0 to 2^40.
func TestValid(t *testing.T) {
	for i, c := range []struct {
		c    vclock.Clock
		want bool
	}{
		{nil, false}, {vclock.Clock{}, false},
		{vclock.Clock{0}, true}, {vclock.Clock{5}, true}, {vclock.Clock{top}, true}, {vclock.Clock{top + 1}, false}, {vclock.Clock{-1}, false},
		{filled(6, 0), true}, {filled(6, top), true}, {filled(6, top+1), false}, {filled(6, -1), false},
		{filled(7, 0), false}, {filled(7, 1), false}, {filled(8, 0), false}, {filled(1000, 0), false},
	} {
		if vclock.Valid(c.c) != c.want {
			t.Errorf("%d: %v: not %v", i, c.c, c.want)
		}
	}
	for _, c := range clocks() {
		if vclock.Valid(c) != valid(c) {
			t.Errorf("%v: not %v", c, valid(c))
		}
	}
	if vclock.MaxCount != top {
		t.Error("MaxCount")
	}
}

// P7.1: one entry decides, wherever it is.
func TestValidByEntry(t *testing.T) {
	for n := 1; n <= roles; n++ {
		for _, entry := range entries() {
			for _, c := range withEntry(n, entry) {
				if want := entry >= 0 && entry <= top; vclock.Valid(c) != want {
					t.Errorf("%v: not %v", c, want)
				}
			}
		}
	}
}

// P7.1, P7.5: the clocks of 1 to 6 roles, and no others.
func TestZero(t *testing.T) {
	for n, want := range map[int]vclock.Clock{
		1: {0}, 2: {0, 0}, 3: {0, 0, 0}, 4: {0, 0, 0, 0}, 5: {0, 0, 0, 0, 0}, 6: {0, 0, 0, 0, 0, 0},
	} {
		same(t, "Zero", answered(vclock.Zero(n)), answer{want, api.OK})
	}
	for _, n := range numbers() {
		if n < 1 || n > 6 {
			same(t, "Zero", answered(vclock.Zero(n)), answer{nil, api.ErrRange})
		}
	}
}

// P7.1, P7.5: Tick of all clocks and roles.
func TestTick(t *testing.T) {
	same(t, "the example", answered(vclock.Tick(vclock.Clock{0, 2}, 0)), answer{vclock.Clock{1, 2}, api.OK})
	same(t, "the other role", answered(vclock.Tick(vclock.Clock{0, 2}, 1)), answer{vclock.Clock{0, 3}, api.OK})
	for _, c := range clocks() {
		for _, role := range numbers() {
			same(t, "Tick", answered(vclock.Tick(c, role)), answered(ticked(c, role)))
		}
	}
	for n := 1; n <= roles; n++ {
		for _, entry := range entries() {
			for _, c := range withEntry(n, entry) {
				for role := -1; role <= n; role++ {
					same(t, "Tick", answered(vclock.Tick(c, role)), answered(ticked(c, role)))
				}
			}
		}
	}
}

// P7.1: the errors of Tick, and which of them counts.
func TestTickErrors(t *testing.T) {
	for i, c := range []struct {
		c    vclock.Clock
		role int
		want api.Errno
	}{
		{nil, 0, api.ErrArg}, {vclock.Clock{}, -1, api.ErrArg}, {vclock.Clock{-1}, 0, api.ErrArg}, {vclock.Clock{top + 1}, 0, api.ErrArg},
		{vclock.Clock{-1}, 1, api.ErrArg}, {vclock.Clock{0, -1}, -1, api.ErrArg}, {vclock.Clock{top, top + 1}, 0, api.ErrArg},
		{filled(7, 0), 0, api.ErrArg}, {filled(7, 0), 6, api.ErrArg}, {filled(7, 0), 7, api.ErrArg}, {filled(7, top), 0, api.ErrArg},
		{vclock.Clock{0}, 1, api.ErrRole}, {vclock.Clock{0}, -1, api.ErrRole}, {vclock.Clock{top}, 1, api.ErrRole}, {vclock.Clock{top}, -1, api.ErrRole},
		{filled(6, 0), 6, api.ErrRole}, {filled(6, 0), math.MinInt, api.ErrRole}, {filled(6, 0), math.MaxInt, api.ErrRole},
		{vclock.Clock{top}, 0, api.ErrLimit}, {filled(6, top), 5, api.ErrLimit}, {vclock.Clock{0, top}, 1, api.ErrLimit},
	} {
		got := answered(vclock.Tick(c.c, c.role))
		if got.e != c.want || len(got.c) != 0 {
			t.Errorf("%d: got %v %v, want %v", i, got.c, got.e, c.want)
		}
	}
	same(t, "up to the limit", answered(vclock.Tick(vclock.Clock{top - 1, 0}, 0)), answer{vclock.Clock{top, 0}, api.OK})
	same(t, "beside the limit", answered(vclock.Tick(vclock.Clock{0, top}, 0)), answer{vclock.Clock{1, top}, api.OK})
}

// P7.1, P7.5: Join of all pairs of clocks.
func TestJoin(t *testing.T) {
	same(t, "the example", answered(vclock.Join(vclock.Clock{1, 2}, vclock.Clock{0, 5})), answer{vclock.Clock{1, 5}, api.OK})
	same(t, "the limits", answered(vclock.Join(vclock.Clock{0, top}, vclock.Clock{top, 0})), answer{vclock.Clock{top, top}, api.OK})
	eachPair(clocks(), func(a, b vclock.Clock) {
		same(t, "Join", answered(vclock.Join(a, b)), answered(joined(a, b)))
	})
}

// P7.1: Join needs two valid clocks of the same number of entries.
func TestJoinErrors(t *testing.T) {
	for i, c := range [][2]vclock.Clock{
		{nil, nil}, {{}, {}}, {nil, {0}}, {{0}, {0, 0}}, {{1}, {1, 2}}, {filled(5, 1), filled(6, 1)}, {filled(7, 0), filled(7, 0)},
		{{-1}, {0}}, {{-1}, {-1}}, {{0, -1}, {5, 5}}, {{top + 1}, {0}}, {{top + 1}, {top + 1}}, {filled(6, 0), filled(7, 0)},
		{{0, 0, 0, 0, 0, 0}, {0, 0, 0, 0, 0, -1}}, {{0, 0, 0, 0, 0, top}, {0, 0, 0, 0, 0, top + 1}},
	} {
		for _, pair := range [][2]vclock.Clock{c, {c[1], c[0]}} {
			got := answered(vclock.Join(pair[0], pair[1]))
			if got.e != api.ErrArg || len(got.c) != 0 {
				t.Errorf("%d: %v, %v: got %v %v", i, pair[0], pair[1], got.c, got.e)
			}
		}
	}
}

// P7.1, P7.5: Receive of many pairs of clocks, for all roles.
func TestReceive(t *testing.T) {
	same(t, "one role", answered(vclock.Receive(vclock.Clock{3, 0}, vclock.Clock{1, 4}, 0)), answer{vclock.Clock{4, 4}, api.OK})
	same(t, "the other role", answered(vclock.Receive(vclock.Clock{3, 0}, vclock.Clock{1, 4}, 1)), answer{vclock.Clock{3, 5}, api.OK})
	for n := range 8 {
		l := append(randomClocks(n, 60), filled(n, 0), filled(n, top), filled(n, top-1), nil, filled(n+1, 1))
		eachPair(l, func(c, message vclock.Clock) {
			for role := -1; role <= 8; role++ {
				same(t, "Receive", answered(vclock.Receive(c, message, role)), answered(received(c, message, role)))
			}
		})
	}
	for _, role := range numbers() {
		same(t, "Receive", answered(vclock.Receive(filled(3, 1), filled(3, 2), role)), answered(received(filled(3, 1), filled(3, 2), role)))
	}
}

// P7.1: the errors of Receive: those of Join, and then those of Tick.
func TestReceiveErrors(t *testing.T) {
	for i, c := range []struct {
		c, message vclock.Clock
		role       int
		want       api.Errno
	}{
		{nil, nil, 0, api.ErrArg}, {vclock.Clock{0}, nil, 0, api.ErrArg}, {nil, vclock.Clock{0}, 0, api.ErrArg},
		{vclock.Clock{0}, vclock.Clock{0, 0}, 1, api.ErrArg}, {vclock.Clock{0}, vclock.Clock{0, 0}, 7, api.ErrArg},
		{vclock.Clock{0}, vclock.Clock{-1}, 0, api.ErrArg}, {vclock.Clock{-1}, vclock.Clock{0}, -1, api.ErrArg},
		{vclock.Clock{top + 1}, vclock.Clock{top}, 0, api.ErrArg}, {vclock.Clock{top}, vclock.Clock{top + 1}, 1, api.ErrArg},
		{filled(7, 0), filled(7, 0), 0, api.ErrArg},
		{vclock.Clock{0}, vclock.Clock{0}, 1, api.ErrRole}, {vclock.Clock{0}, vclock.Clock{0}, -1, api.ErrRole},
		{vclock.Clock{top}, vclock.Clock{top}, 1, api.ErrRole}, {filled(6, 0), filled(6, top), 6, api.ErrRole},
		{vclock.Clock{top}, vclock.Clock{0}, 0, api.ErrLimit}, {vclock.Clock{0}, vclock.Clock{top}, 0, api.ErrLimit},
		{vclock.Clock{0, top}, vclock.Clock{3, 0}, 1, api.ErrLimit}, {filled(6, top), filled(6, top), 5, api.ErrLimit},
	} {
		got := answered(vclock.Receive(c.c, c.message, c.role))
		if got.e != c.want || len(got.c) != 0 {
			t.Errorf("%d: got %v %v, want %v", i, got.c, got.e, c.want)
		}
	}
	same(t, "the limit of another role", answered(vclock.Receive(vclock.Clock{0, top}, vclock.Clock{3, 0}, 0)), answer{vclock.Clock{4, top}, api.OK})
	same(t, "up to the limit", answered(vclock.Receive(vclock.Clock{0}, vclock.Clock{top - 1}, 0)), answer{vclock.Clock{top}, api.OK})
}
