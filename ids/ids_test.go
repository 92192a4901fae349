package ids_test

import (
	"maps"
	"math"
	"math/rand"
	"slices"
	"testing"

	"pouch/api"
	"pouch/ids"
)

type (
	row   = ids.Row
	table = ids.Table
)

var (
	states  = []int{ids.Acked, ids.Received, ids.Released, ids.Done, ids.Wanted, ids.Unwanted}
	noState = []int{math.MinInt, -1, 0, 7, 8, 256 + 1, 1<<32 + 1, math.MaxInt}
	kinds   = []int{math.MinInt, -4, -1, 0, 1, 2, 3, 4, 5, 6, 7, 8, 9, 10, 11, 12, 13, 14, 15, 16, 17, 256 + 4, 1<<32 + 4, math.MaxInt}
	numbers = []int{math.MinInt, -2, -1, 0, 1, 2, 3, 1024, 1025, 1<<32 + 2, math.MaxInt}
)

// turns is the document's table.
var turns = map[int]struct {
	state, then int  // then 0: not in use any more
	counted     bool // must N be n?
}{
	api.Puback:   {state: 1},
	api.Pubrec:   {state: 2, then: 3},
	api.Pubrel:   {state: 3, then: 4},
	api.Pubcomp:  {state: 4},
	api.Suback:   {state: 5, counted: true},
	api.Unsuback: {state: 6, counted: true},
}

// few is a Table with each State, at both ends of the numbers.
var few = table{{1, ids.Wanted, 0}, {2, ids.Acked, 0}, {7, ids.Received, 0}, {8, ids.Released, 0}, {256, ids.Done, 0}, {300, ids.Unwanted, 3}, {65535, ids.Wanted, 2}}

// held is what is in use, by numbers.
type held map[uint16]row

func heldOf(t table) held {
	h := held{}
	for _, r := range t {
		h[r.Id] = r
	}
	return h
}

// rows answers them rising.
func (h held) rows() table {
	var t table
	for _, id := range slices.Sorted(maps.Keys(h)) {
		t = append(t, h[id])
	}
	return t
}

// fits is the document's word of N, beside a State.
func fits(state, n int) bool {
	switch state {
	case 1, 2, 3, 4:
		return n == 0
	case 5, 6:
		return n >= 0
	}
	return false
}

// open does in h what the document says of Open.
func (h held) open(id uint16, state, n int) api.Errno {
	if id == 0 || !slices.Contains([]int{1, 2, 5, 6}, state) || !fits(state, n) {
		return api.ErrArg
	}
	if _, ok := h[id]; ok {
		return api.ErrUsed
	}
	h[id] = row{Id: id, State: state, N: n}
	return api.OK
}

// turn does in h what the document says of Turn.
func (h held) turn(kind int, id uint16, failed bool, n int) api.Errno {
	how, ok := turns[kind]
	if !ok {
		return api.ErrArg
	}
	r, ok := h[id]
	if !ok || r.State != how.state || how.counted && r.N != n {
		return api.ErrNone
	}
	if how.then == 0 || kind == api.Pubrec && failed {
		delete(h, id)
	} else {
		r.State = how.then
		h[id] = r
	}
	return api.OK
}

// flying counts the Rows of messages.
func (h held) flying() int {
	n := 0
	for _, r := range h {
		if r.State >= 1 && r.State <= 4 {
			n++
		}
	}
	return n
}

// opened opens, and holds the answer against the document's.
func opened(t *testing.T, tb table, id uint16, state, n int) (table, api.Errno) {
	t.Helper()
	h, before := heldOf(tb), slices.Clone(tb)
	want := h.open(id, state, n)
	got, err := ids.Open(tb, id, state, n)
	if err != want || !slices.Equal(got, h.rows()) || !slices.Equal(tb, before) || !ids.Right(got) {
		t.Errorf("Open(%v, %d, %d, %d): %v, %d, want %v, %d", before, id, state, n, got, err, h.rows(), want)
	}
	return got, err
}

// turned turns, and holds the answer against the document's.
func turned(t *testing.T, tb table, kind int, id uint16, failed bool, n int) (table, api.Errno) {
	t.Helper()
	h, before := heldOf(tb), slices.Clone(tb)
	want := h.turn(kind, id, failed, n)
	got, err := ids.Turn(tb, kind, id, failed, n)
	if err != want || !slices.Equal(got, h.rows()) || !slices.Equal(tb, before) || !ids.Right(got) {
		t.Errorf("Turn(%v, %d, %d, %t, %d): %v, %d, want %v, %d", before, kind, id, failed, n, got, err, h.rows(), want)
	}
	return got, err
}

// full answers a Table of all numbers that there are.
func full(state, n int) table {
	t := make(table, 0, api.MaxId)
	for id := 1; id <= api.MaxId; id++ {
		t = append(t, row{Id: uint16(id), State: state, N: n})
	}
	return t
}

// P11.1: the States have these numbers, and Rows compare.
func TestP11_1States(t *testing.T) {
	if !slices.Equal(states, []int{1, 2, 3, 4, 5, 6}) {
		t.Error(states)
	}
	if r := (row{7, ids.Wanted, 2}); r != (row{7, ids.Wanted, 2}) || r == (row{7, ids.Wanted, 1}) || r == (row{7, ids.Unwanted, 2}) || r == (row{8, ids.Wanted, 2}) {
		t.Error("rows don't compare")
	}
}

// P11.1: Ids rise, each once, none is 0.
func TestP11_1RightIds(t *testing.T) {
	for _, tb := range []table{nil, {}, few, few[:1], few[3:], full(ids.Acked, 0), full(ids.Unwanted, 5)} {
		if !ids.Right(tb) {
			t.Errorf("Right of %d rows: false", len(tb))
		}
	}
	for _, l := range [][]uint16{{0}, {0, 1}, {1, 0}, {1, 1}, {2, 1}, {1, 2, 2}, {1, 3, 2}, {1, 2, 3, 0}, {65535, 1}, {65535, 65535}, {1, 65535, 0}, {256, 1}, {7, 8, 9, 7}} {
		var tb table
		for _, id := range l {
			tb = append(tb, row{Id: id, State: ids.Acked})
		}
		if ids.Right(tb) {
			t.Errorf("Right of the numbers %v: true", l)
		}
	}
	for _, i := range []int{0, 1, 32768, 65533} {
		tb := full(ids.Acked, 0)
		tb[i], tb[i+1] = tb[i+1], tb[i]
		if ids.Right(tb) {
			t.Errorf("Right with the rows %d and %d changed: true", i, i+1)
		}
	}
}

// P11.1: States, and N beside each, wherever the Row stands.
func TestP11_1RightStates(t *testing.T) {
	for _, state := range append(slices.Clone(states), noState...) {
		for _, n := range numbers {
			want := fits(state, n)
			r := row{Id: 7, State: state, N: n}
			for _, tb := range []table{{r}, {{1, ids.Acked, 0}, r}, {r, {8, ids.Wanted, 1}}, {{6, ids.Done, 0}, r, {65535, ids.Acked, 0}}} {
				if ids.Right(tb) != want {
					t.Errorf("Right(%v): %t", tb, !want)
				}
			}
		}
	}
}

// P11.1: Open of what may be: it stands in its place, and no other Row is another one.
func TestP11_1Open(t *testing.T) {
	for _, tb := range []table{nil, {}, few, few[:2], few[2:5], {{65535, ids.Acked, 0}}} {
		for _, id := range []uint16{1, 2, 3, 6, 7, 8, 9, 255, 256, 257, 299, 300, 301, 65534, 65535} {
			for _, state := range []int{ids.Acked, ids.Received, ids.Wanted, ids.Unwanted} {
				opened(t, tb, id, state, 0)
			}
			opened(t, tb, id, ids.Wanted, 1)
			opened(t, tb, id, ids.Unwanted, 1024)
			opened(t, tb, id, ids.Wanted, math.MaxInt)
		}
	}
	if tb, err := ids.Open(nil, 7, ids.Unwanted, 3); err != api.OK || !slices.Equal(tb, table{{7, 6, 3}}) {
		t.Error(tb, err)
	}
}

// P11.1: Open's errors: what can't be ahead of what is in use.
func TestP11_1OpenErrors(t *testing.T) {
	for _, id := range []uint16{0, 1, 7, 9, 300, 65535} {
		for _, state := range append(slices.Clone(states), noState...) {
			for _, n := range numbers {
				opened(t, nil, id, state, n)
				opened(t, few, id, state, n)
			}
		}
	}
	for _, c := range []struct {
		id       uint16
		state, n int
		want     api.Errno
	}{
		{0, ids.Acked, 0, api.ErrArg}, {9, ids.Released, 0, api.ErrArg}, {9, ids.Done, 0, api.ErrArg}, {9, 0, 0, api.ErrArg}, {9, 7, 0, api.ErrArg},
		{9, ids.Acked, 1, api.ErrArg}, {9, ids.Received, -1, api.ErrArg}, {9, ids.Wanted, -1, api.ErrArg}, {9, ids.Unwanted, -1, api.ErrArg},
		{7, ids.Released, 0, api.ErrArg}, {7, ids.Acked, 1, api.ErrArg}, {7, ids.Wanted, -1, api.ErrArg},
		{7, ids.Received, 0, api.ErrUsed}, {7, ids.Acked, 0, api.ErrUsed}, {7, ids.Wanted, 1, api.ErrUsed}, {65535, ids.Wanted, 2, api.ErrUsed}, {1, ids.Unwanted, 0, api.ErrUsed},
	} {
		if tb, err := ids.Open(few, c.id, c.state, c.n); err != c.want || !slices.Equal(tb, few) {
			t.Errorf("Open(%d, %d, %d): %v, %d, want %d", c.id, c.state, c.n, tb, err, c.want)
		}
	}
}

// P11.1: the document's table, each kind against each State, and N against n.
func TestP11_1Turn(t *testing.T) {
	for _, kind := range kinds {
		for _, state := range states {
			for _, n := range numbers {
				if !fits(state, n) {
					continue
				}
				r := row{Id: 7, State: state, N: n}
				for _, tb := range []table{{r}, {{6, ids.Acked, 0}, r, {8, ids.Wanted, n}}} {
					for _, asked := range numbers {
						for _, failed := range []bool{false, true} {
							turned(t, tb, kind, 7, failed, asked)
						}
					}
				}
			}
		}
	}
}

// P11.1: Turn, each row of the document's table by hand.
func TestP11_1TurnByHand(t *testing.T) {
	for _, c := range []struct {
		kind   int
		id     uint16
		failed bool
		n      int
		want   api.Errno
		then   row // zero: it isn't in use any more
	}{
		{api.Puback, 2, false, 0, api.OK, row{}}, {api.Puback, 2, true, 5, api.OK, row{}},
		{api.Pubrec, 7, false, 0, api.OK, row{7, 3, 0}}, {api.Pubrec, 7, true, 0, api.OK, row{}}, {api.Pubrec, 7, false, -5, api.OK, row{7, 3, 0}},
		{api.Pubrel, 8, false, 0, api.OK, row{8, 4, 0}}, {api.Pubrel, 8, true, 1, api.OK, row{8, 4, 0}},
		{api.Pubcomp, 256, false, 0, api.OK, row{}}, {api.Pubcomp, 256, true, 1, api.OK, row{}},
		{api.Suback, 65535, false, 2, api.OK, row{}}, {api.Suback, 65535, true, 2, api.OK, row{}}, {api.Suback, 65535, false, 1, api.ErrNone, row{65535, 5, 2}}, {api.Suback, 65535, false, 3, api.ErrNone, row{65535, 5, 2}}, {api.Suback, 65535, false, -2, api.ErrNone, row{65535, 5, 2}},
		{api.Suback, 1, false, 0, api.OK, row{}}, {api.Unsuback, 1, false, 0, api.ErrNone, row{1, 5, 0}},
		{api.Unsuback, 300, false, 3, api.OK, row{}}, {api.Unsuback, 300, false, 0, api.ErrNone, row{300, 6, 3}}, {api.Suback, 300, false, 3, api.ErrNone, row{300, 6, 3}},
		{api.Puback, 7, false, 0, api.ErrNone, row{7, 2, 0}}, {api.Pubrec, 2, false, 0, api.ErrNone, row{2, 1, 0}}, {api.Pubrel, 7, false, 0, api.ErrNone, row{7, 2, 0}}, {api.Pubcomp, 8, false, 0, api.ErrNone, row{8, 3, 0}}, {api.Pubrec, 8, true, 0, api.ErrNone, row{8, 3, 0}}, {api.Pubrel, 256, false, 0, api.ErrNone, row{256, 4, 0}},
		{api.Publish, 7, false, 0, api.ErrArg, row{7, 2, 0}}, {api.Subscribe, 1, false, 0, api.ErrArg, row{1, 5, 0}}, {0, 2, false, 0, api.ErrArg, row{2, 1, 0}}, {api.Auth, 256, false, 0, api.ErrArg, row{256, 4, 0}},
	} {
		tb, err := ids.Turn(few, c.kind, c.id, c.failed, c.n)
		want := slices.DeleteFunc(slices.Clone(few), func(r row) bool { return r.Id == c.id && c.then == row{} })
		for i, r := range want {
			if r.Id == c.id {
				want[i] = c.then
			}
		}
		if err != c.want || !slices.Equal(tb, want) {
			t.Errorf("Turn(%d, %d, %t, %d): %v, %d, want %v, %d", c.kind, c.id, c.failed, c.n, tb, err, want, c.want)
		}
	}
}

// P11.1: numbers that aren't in use; another kind is told ahead of that.
func TestP11_1TurnNone(t *testing.T) {
	for _, tb := range []table{nil, {}, few} {
		for _, id := range []uint16{0, 3, 6, 9, 255, 257, 299, 301, 65534} {
			for _, kind := range kinds {
				for _, failed := range []bool{false, true} {
					turned(t, tb, kind, id, failed, 0)
					turned(t, tb, kind, id, failed, 2)
				}
			}
		}
	}
}

// P11.1: how many are messages'.
func TestP11_1Flying(t *testing.T) {
	for i, c := range []struct {
		tb   table
		want int
	}{
		{nil, 0}, {table{}, 0}, {few, 4}, {few[:1], 0}, {few[:2], 1}, {few[1:5], 4}, {few[5:], 0},
		{full(ids.Acked, 0), 65535}, {full(ids.Received, 0), 65535}, {full(ids.Released, 0), 65535}, {full(ids.Done, 0), 65535}, {full(ids.Wanted, 1), 0}, {full(ids.Unwanted, 0), 0},
	} {
		if got := ids.Flying(c.tb); got != c.want {
			t.Errorf("Flying %d: %d, want %d", i, got, c.want)
		}
	}
}

// P11.1: the document's example.
func TestP11_1Example(t *testing.T) {
	tb, err := opened(t, nil, 7, 2, 0)
	for _, c := range []struct {
		kind int
		then table
	}{{api.Pubrec, table{{7, 3, 0}}}, {api.Pubrel, table{{7, 4, 0}}}, {api.Pubcomp, nil}} {
		if err != api.OK {
			t.Fatal(tb, err)
		}
		tb, err = turned(t, tb, c.kind, 7, false, 0)
		if !slices.Equal(tb, c.then) {
			t.Errorf("behind %d: %v", c.kind, tb)
		}
	}
}

// P11.1: all Tables that come of none by calls of few numbers, held against the document's words call by call.
func TestP11_1AllOfFew(t *testing.T) {
	seen := map[[3]row]bool{{}: true}
	work := []table{nil}
	keep := func(tb table) {
		var key [3]row
		copy(key[:], tb)
		if !seen[key] {
			seen[key] = true
			work = append(work, tb)
		}
	}
	for len(work) > 0 {
		tb := work[0]
		work = work[1:]
		if got, want := ids.Flying(tb), heldOf(tb).flying(); got != want {
			t.Errorf("Flying(%v): %d, want %d", tb, got, want)
		}
		for id := range uint16(4) {
			for state := range 8 {
				got, _ := opened(t, tb, id, state, 0)
				keep(got)
				got, _ = opened(t, tb, id, state, 1)
				keep(got)
			}
			for _, kind := range []int{3, 4, 5, 6, 7, 8, 9, 10, 11, 12} {
				for n := range 2 {
					got, _ := turned(t, tb, kind, id, n == 0, n)
					keep(got)
					got, _ = turned(t, tb, kind, id, n != 0, n)
					keep(got)
				}
			}
		}
	}
	// Each of three numbers isn't in use, waits as one of four messages' States, or for 0 or 1 codes of two kinds.
	if len(seen) != 9*9*9 {
		t.Error(len(seen), "Tables")
	}
}

// P11.1: when all numbers are in use none comes into use, till one is answered.
func TestP11_1Full(t *testing.T) {
	tb := full(ids.Acked, 0)
	for _, id := range []uint16{1, 2, 32768, 65534, 65535} {
		if got, err := ids.Open(tb, id, ids.Wanted, 1); err != api.ErrUsed || !slices.Equal(got, tb) {
			t.Errorf("Open of %d: %d rows, %d", id, len(got), err)
		}
		less, err := ids.Turn(tb, api.Puback, id, false, 0)
		if err != api.OK || len(less) != api.MaxId-1 || ids.Flying(less) != api.MaxId-1 || !ids.Right(less) {
			t.Errorf("Turn of %d: %d rows, %d", id, len(less), err)
		}
		if _, err := ids.Turn(less, api.Puback, id, false, 0); err != api.ErrNone {
			t.Errorf("Turn of %d again: %d", id, err)
		}
		if got, err := ids.Open(less, id, ids.Acked, 0); err != api.OK || !slices.Equal(got, tb) {
			t.Errorf("Open of %d again: %d rows, %d", id, len(got), err)
		}
	}
}

// P11.2: what is handed in stays as it was, spare room too, and no answer shares anything with it, or with another answer.
func TestP11_2NewMemory(t *testing.T) {
	mark := row{99, 99, 99}
	for i, call := range []func(table) table{
		func(tb table) table { u, _ := ids.Open(tb, 1, ids.Acked, 0); return u },
		func(tb table) table { u, _ := ids.Open(tb, 50, ids.Wanted, 4); return u },
		func(tb table) table { u, _ := ids.Open(tb, 65535, ids.Received, 0); return u },
		func(tb table) table { u, _ := ids.Open(tb, 7, ids.Acked, 0); return u },
		func(tb table) table { u, _ := ids.Open(tb, 0, ids.Acked, 0); return u },
		func(tb table) table { u, _ := ids.Turn(tb, api.Pubrec, 7, false, 0); return u },
		func(tb table) table { u, _ := ids.Turn(tb, api.Pubrec, 7, true, 0); return u },
		func(tb table) table { u, _ := ids.Turn(tb, api.Puback, 5, false, 0); return u },
		func(tb table) table { u, _ := ids.Turn(tb, api.Pubrel, 80, false, 0); return u },
		func(tb table) table { u, _ := ids.Turn(tb, api.Suback, 90, false, 2); return u },
		func(tb table) table { u, _ := ids.Turn(tb, api.Suback, 90, false, 3); return u },
		func(tb table) table { u, _ := ids.Turn(tb, api.Publish, 7, false, 0); return u },
		func(tb table) table { ids.Right(tb); ids.Flying(tb); return nil },
	} {
		whole := table{{5, ids.Acked, 0}, {7, ids.Received, 0}, {80, ids.Released, 0}, {90, ids.Wanted, 2}, mark, mark, mark}
		kept := slices.Clone(whole)
		got, other := call(whole[:4]), call(whole[:4])
		want := slices.Clone(got)
		if !slices.Equal(whole, kept) || !slices.Equal(other, want) {
			t.Errorf("call %d: %v of what was handed in, then %v", i, whole, other)
		}
		clear(whole)
		if !slices.Equal(got, want) {
			t.Errorf("call %d hangs on what was handed in: %v", i, got)
		}
		got = got[:cap(got)]
		for k := range got {
			got[k] = mark
		}
		if !slices.Equal(whole, make(table, 7)) || !slices.Equal(other, want) {
			t.Errorf("call %d shares: %v, %v", i, whole, other)
		}
	}
}

// P1 of DOC.md: any arguments have an answer, also Tables that aren't Right.
func TestP1AnyArguments(t *testing.T) {
	random := rand.New(rand.NewSource(7))
	some := func() int { return []int{random.Intn(8), random.Intn(20) - 2, int(random.Uint64())}[random.Intn(3)] }
	for range 50000 {
		var tb table
		for range random.Intn(7) {
			tb = append(tb, row{uint16(random.Intn(5)), some(), some()})
		}
		id := uint16(random.Intn(6))
		ids.Open(tb, id, some(), some())
		ids.Turn(tb, some(), id, random.Intn(2) == 0, some())
		if n := ids.Flying(tb); n < 0 || n > len(tb) {
			t.Fatalf("Flying(%v): %d", tb, n)
		}
		if ids.Right(tb) != slices.Equal(tb, heldOf(tb).rows()) && !slices.ContainsFunc(tb, func(r row) bool { return r.Id == 0 || !fits(r.State, r.N) }) {
			t.Fatalf("Right(%v)", tb)
		}
	}
}
