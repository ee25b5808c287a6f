package vclock_test

import (
	"math/rand"
	"slices"
	"testing"

	"farandole/api"
	"farandole/vclock"
)

// event is one of a conversation. The causes are those of the same role just ahead of it, and the send event of its message.
type event struct {
	role   int
	clock  vclock.Clock
	causes []int
}

// conversation has the events in the order in which they happen.
type conversation struct {
	roles  int
	events []event
}

// last returns the index of the last event of a role, or -1.
func (v *conversation) last(role int) int {
	for i, e := range slices.Backward(v.events) {
		if e.role == role {
			return i
		}
	}
	return -1
}

// now returns the clock of a role.
func (v *conversation) now(t *testing.T, role int) vclock.Clock {
	t.Helper()
	if i := v.last(role); i >= 0 {
		return v.events[i].clock
	}
	c, e := vclock.Zero(v.roles)
	if e != api.OK {
		t.Fatalf("the zero clock of %d roles: %v", v.roles, e)
	}
	return c
}

// add appends an event of a role; message is the index of the send event that it receives, or -1.
func (v *conversation) add(t *testing.T, role, message int) {
	t.Helper()
	next := event{role: role}
	if i := v.last(role); i >= 0 {
		next.causes = append(next.causes, i)
	}
	var e api.Errno
	if message < 0 {
		next.clock, e = vclock.Tick(v.now(t, role), role)
	} else {
		next.causes = append(next.causes, message)
		next.clock, e = vclock.Receive(v.now(t, role), v.events[message].clock, role)
	}
	if e != api.OK || !vclock.Valid(next.clock) || !valid(next.clock) {
		t.Fatalf("event %d: %v %v", len(v.events), next.clock, e)
	}
	v.events = append(v.events, next)
}

// pasts returns, for each event, which events are before it by a chain of causes.
func (v *conversation) pasts() [][]bool {
	l := make([][]bool, len(v.events))
	for i, e := range v.events {
		l[i] = make([]bool, len(v.events))
		for _, cause := range e.causes {
			l[i][cause] = true
			for k, is := range l[cause] {
				l[i][k] = l[i][k] || is
			}
		}
	}
	return l
}

// test tests that the order of the clocks is that of the events, and that each entry counts the events that are known.
func (v *conversation) test(t *testing.T) {
	t.Helper()
	pasts := v.pasts()
	for i, e := range v.events {
		known := make(vclock.Clock, v.roles)
		for k, other := range v.events {
			want := relation{before: pasts[k][i], after: pasts[i][k], equal: i == k}
			want.concurrent = !want.before && !want.after && !want.equal
			if got := compared(e.clock, other.clock); got != want {
				t.Fatalf("events %d and %d of %v: got %v, want %v", i, k, v.events, got, want)
			}
			if want.after || want.equal {
				known[other.role]++
			}
		}
		if !slices.Equal(e.clock, known) {
			t.Fatalf("event %d of %v: %v, but it knows %v", i, v.events, e.clock, known)
		}
	}
}

// P7.4: A sends x to B, and B receives it.
func TestOneMessage(t *testing.T) {
	v := &conversation{roles: 2}
	v.add(t, 0, -1)
	v.add(t, 1, 0)
	if !vclock.Equal(v.events[0].clock, vclock.Clock{1, 0}) || !vclock.Equal(v.events[1].clock, vclock.Clock{1, 1}) {
		t.Errorf("%v", v.events)
	}
	v.test(t)
}

// eachConversation tests all conversations that go on from v with up to n events, whose messages are received by any role, also more than once.
func eachConversation(t *testing.T, v conversation, n int) {
	t.Helper()
	v.test(t)
	if n == 0 {
		return
	}
	for role := range v.roles {
		for message := -1; message < len(v.events); message++ {
			longer := conversation{v.roles, slices.Clone(v.events)}
			longer.add(t, role, message)
			eachConversation(t, longer, n-1)
		}
	}
}

// P7.4, P7.5: all short conversations.
func TestShortConversations(t *testing.T) {
	for n, most := range map[int]int{1: 6, 2: 5, 3: 4, 4: 4, 5: 3, 6: 3} {
		eachConversation(t, conversation{roles: n}, most)
	}
}

// P7.4, P7.5: long conversations, in which messages overtake each other, go to several roles or are lost.
func TestLongConversations(t *testing.T) {
	random := rand.New(rand.NewSource(74))
	for n := 1; n <= roles; n++ {
		for range 30 {
			v := &conversation{roles: n}
			often := 1 + random.Intn(4)
			for i := range 120 {
				role, message := random.Intn(n), -1
				if i > 0 && random.Intn(often) == 0 {
					message = random.Intn(i)
				}
				v.add(t, role, message)
			}
			v.test(t)
		}
	}
}

// P7.4, P7.5: roles whose only causes are messages in order, as a ring and as a star.
func TestRingAndStar(t *testing.T) {
	for n := 2; n <= roles; n++ {
		ring, star := &conversation{roles: n}, &conversation{roles: n}
		ring.add(t, 0, -1)
		for i := range 40 {
			ring.add(t, (i+1)%n, len(ring.events)-1)
		}
		ring.test(t)
		for range 5 {
			star.add(t, 0, -1)
			sent := len(star.events) - 1
			for role := 1; role < n; role++ {
				star.add(t, role, sent)
				star.add(t, 0, len(star.events)-1)
			}
		}
		star.test(t)
	}
}
