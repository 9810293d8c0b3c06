package queue

import (
	"math"
	"math/rand"
	"slices"
	"testing"

	"forebear/api"
)

// compare tells which of two items is ahead, by the words of P2.1 alone.
func compare(a, b Item) int {
	switch {
	case a.Rank > b.Rank, a.Rank == b.Rank && a.ID < b.ID:
		return -1
	case a == b:
		return 0
	}
	return 1
}

// inOrder is a sorted copy of the items: the order in which they have to go.
func inOrder(items []Item) []Item {
	sorted := slices.Clone(items)
	slices.SortFunc(sorted, compare)
	return sorted
}

// wantAll pops all that wait, and looks at each step at what Len, Peek and Pop answer.
func wantAll(t *testing.T, q *Queue, want ...Item) {
	t.Helper()
	for i, item := range want {
		if n := q.Len(); n != len(want)-i {
			t.Fatalf("Len with %d to go: %d", len(want)-i, n)
		}
		if got, ok := q.Peek(); got != item || !ok {
			t.Fatalf("Peek %d: %v, %v, want %v", i, got, ok, item)
		}
		if got, ok := q.Pop(); got != item || !ok {
			t.Fatalf("Pop %d: %v, %v, want %v", i, got, ok, item)
		}
	}
	wantNone(t, q)
}

func wantNone(t *testing.T, q *Queue) {
	t.Helper()
	for range 2 {
		if got, ok := q.Peek(); got != (Item{}) || ok {
			t.Fatalf("Peek of none: %v, %v", got, ok)
		}
		if got, ok := q.Pop(); got != (Item{}) || ok {
			t.Fatalf("Pop of none: %v, %v", got, ok)
		}
		if n := q.Len(); n != 0 {
			t.Fatalf("Len of none: %d", n)
		}
	}
}

// lists are items in rising, falling and mixed order, none, one, the same ones more than once, and the edges of both numbers.
func lists() map[string][]Item {
	var ranks, ids, mixed []Item
	for i := range 40 {
		ranks = append(ranks, Item{Rank: int64(i - 20), ID: api.ID(40 - i)})
		ids = append(ids, Item{Rank: 3, ID: api.ID(i)})
		mixed = append(mixed, Item{Rank: int64(i * 7 % 5), ID: api.ID(i * 11 % 13)})
	}
	edges := []Item{
		{Rank: 0, ID: 0},
		{Rank: math.MinInt64, ID: math.MaxUint64},
		{Rank: math.MaxInt64, ID: math.MaxUint64},
		{Rank: -1, ID: 1 << 63},
		{Rank: math.MaxInt64, ID: 0},
		{Rank: math.MinInt64, ID: 0},
		{Rank: math.MinInt64 + 1, ID: 5},
		{Rank: 0, ID: math.MaxUint64},
		{Rank: 0, ID: 1<<63 - 1},
		{Rank: 0, ID: 1 << 63},
		{Rank: 1, ID: 1},
		{Rank: math.MaxInt64 - 1, ID: 2},
	}
	return map[string][]Item{
		"none":          nil,
		"one":           {{Rank: -4, ID: 9}},
		"one of zeros":  {{}},
		"ranks rising":  ranks,
		"ranks falling": inOrder(ranks),
		"IDs rising":    ids,
		"IDs falling":   reversed(ids),
		"mixed":         mixed,
		"edges":         edges,
		"edges twice":   slices.Concat(edges, reversed(edges)),
		"one of a kind": slices.Repeat([]Item{{Rank: 2, ID: 6}}, 17),
	}
}

func reversed(items []Item) []Item {
	turned := slices.Clone(items)
	slices.Reverse(turned)
	return turned
}

// The chapter's example.
func TestExample(t *testing.T) {
	wantAll(t, New(Item{1, 7}, Item{5, 9}, Item{5, 8}), Item{5, 8}, Item{5, 9}, Item{1, 7})
}

// P2.1: the Rank decides ahead of the ID, the greater Rank and the lesser ID.
func TestAhead(t *testing.T) {
	for _, c := range []struct{ first, second Item }{
		{Item{2, 9}, Item{1, 1}},
		{Item{2, 1}, Item{1, 9}},
		{Item{2, 5}, Item{2, 6}},
		{Item{0, 5}, Item{-1, 5}},
		{Item{-1, 5}, Item{-2, 0}},
		{Item{math.MaxInt64, 5}, Item{math.MinInt64, 5}},
		{Item{math.MaxInt64, 5}, Item{math.MaxInt64 - 1, 5}},
		{Item{math.MinInt64 + 1, 5}, Item{math.MinInt64, 0}},
		{Item{1, 0}, Item{1, math.MaxUint64}},
		{Item{1, 1<<63 - 1}, Item{1, 1 << 63}},
	} {
		wantAll(t, New(c.first, c.second), c.first, c.second)
		wantAll(t, New(c.second, c.first), c.first, c.second)
	}
}

// P2.1, P2.2: however the items come in, they go in one order.
func TestPushedAtOnceAndOneByOne(t *testing.T) {
	for name, items := range lists() {
		t.Run(name, func(t *testing.T) {
			want := inOrder(items)
			wantAll(t, New(items...), want...)

			atOnce := New()
			atOnce.Push(items...)
			wantAll(t, atOnce, want...)

			oneByOne := New()
			for i, item := range items {
				oneByOne.Push(item)
				if n := oneByOne.Len(); n != i+1 {
					t.Fatalf("Len after %d: %d", i+1, n)
				}
			}
			wantAll(t, oneByOne, want...)

			halves := New(items[:len(items)/2]...)
			halves.Push(items[len(items)/2:]...)
			wantAll(t, halves, want...)
		})
	}
}

// P2.1, P2.2: a queue of none, however none is told.
func TestNone(t *testing.T) {
	for _, q := range []*Queue{New(), New(nil...), New([]Item{}...)} {
		wantNone(t, q)
		q.Push()
		q.Push(nil...)
		wantNone(t, q)
		q.Push(Item{-3, 4})
		q.Push()
		wantAll(t, q, Item{-3, 4})
	}
}

// P2.1: an item waits as often as it is pushed, and comes back after it went.
func TestItemMoreThanOnce(t *testing.T) {
	twice := Item{4, 4}
	q := New(twice, Item{9, 1}, twice)
	q.Push(twice)
	wantAll(t, q, Item{9, 1}, twice, twice, twice)
	q.Push(twice)
	wantAll(t, q, twice)
}

// P2.2: an item of zeros is told from none by the bool alone.
func TestItemOfZeros(t *testing.T) {
	wantAll(t, New(Item{}, Item{}), Item{}, Item{})
}

// P2.2: Peek changes nothing, however often it is asked.
func TestPeekChangesNothing(t *testing.T) {
	for name, items := range lists() {
		asked := New(items...)
		for range 5 {
			asked.Peek()
		}
		t.Run(name, func(t *testing.T) { wantAll(t, asked, inOrder(items)...) })
	}
}

// P2.1, P2.2: pushes and pops by turns, held against a sorted list.
func TestPushesAndPopsByTurns(t *testing.T) {
	for seed := range int64(60) {
		r := rand.New(rand.NewSource(seed))
		q, waiting := New(), []Item{}
		for range 300 {
			if r.Intn(2) == 0 {
				items := randomItems(r)
				q.Push(items...)
				waiting = inOrder(append(waiting, items...))
				continue
			}
			got, ok := q.Pop()
			if len(waiting) == 0 {
				if got != (Item{}) || ok {
					t.Fatalf("seed %d: Pop of none: %v, %v", seed, got, ok)
				}
				continue
			}
			if got != waiting[0] || !ok {
				t.Fatalf("seed %d: Pop: %v, %v, want %v", seed, got, ok, waiting[0])
			}
			waiting = waiting[1:]
		}
		wantAll(t, q, waiting...)
	}
}

func randomItems(r *rand.Rand) []Item {
	items := make([]Item, r.Intn(4))
	for i := range items {
		items[i] = Item{Rank: int64(r.Intn(9) - 4), ID: api.ID(r.Intn(6))}
	}
	return items
}

// Rule 3: what is handed in is not changed, its spare room neither, and not kept.
func TestWhatIsHandedIn(t *testing.T) {
	spare := Item{77, 77}
	for name, items := range lists() {
		t.Run(name, func(t *testing.T) {
			room := append(slices.Clone(items), spare, spare, spare)
			handed := room[:len(items)]
			made, pushed := New(handed...), New()
			pushed.Push(handed...)
			for _, q := range []*Queue{made, pushed} {
				q.Push(Item{0, 3})
				q.Pop()
				q.Push(Item{50, 3})
			}
			if !slices.Equal(room, append(slices.Clone(items), spare, spare, spare)) {
				t.Errorf("changed: %v", room)
			}
			for i := range room {
				room[i] = Item{-99, 99}
			}
			want := inOrder(append(slices.Clone(items), Item{0, 3}))[1:]
			want = inOrder(append(want, Item{50, 3}))
			wantAll(t, made, want...)
			wantAll(t, pushed, want...)
		})
	}
}

// Rule 4: two queues know nothing of each other, though they were handed one list.
func TestQueuesApart(t *testing.T) {
	items := []Item{{1, 1}, {2, 2}, {3, 3}}
	a, b := New(items...), New(items...)
	a.Pop()
	a.Push(Item{9, 9})
	wantAll(t, b, Item{3, 3}, Item{2, 2}, Item{1, 1})
	wantAll(t, a, Item{9, 9}, Item{2, 2}, Item{1, 1})
}

// Rule 5: a call ends soon, however many wait.
func TestMany(t *testing.T) {
	r := rand.New(rand.NewSource(1))
	items := make([]Item, 200000)
	for i := range items {
		items[i] = Item{Rank: int64(r.Uint64()), ID: api.ID(r.Uint64())}
	}
	wantAll(t, New(items...), inOrder(items)...)
}
