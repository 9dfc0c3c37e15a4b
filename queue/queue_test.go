package queue_test

import (
	"math"
	"testing"

	"dustpan/api"
	"dustpan/queue"
)

// noClasses are numbers that no class has.
func noClasses() []int {
	return []int{math.MinInt, -4, -1, 4, 5, 16, 1 << 32, math.MaxInt}
}

// made is a queue to which blocks were put: of each pair the class and the block.
func made(t *testing.T, pairs ...[2]int) *queue.Queue {
	t.Helper()
	q := queue.New()
	if q == nil {
		t.Fatal("New(): nil")
	}
	for _, p := range pairs {
		if e := q.Put(p[0], p[1]); e != api.OK {
			t.Fatalf("Put(%d, %d): %d", p[0], p[1], e)
		}
	}
	return q
}

// holds looks at all that a queue tells: how many are open, and of each class how many wait.
func holds(t *testing.T, q *queue.Queue, open int, waits ...int) {
	t.Helper()
	rests := open == 0
	for k, want := range waits {
		rests = rests && want == 0
		if got := q.Len(k); got != want {
			t.Fatalf("Len(%d): %d; want %d", k, got, want)
		}
	}
	for _, k := range noClasses() {
		if got := q.Len(k); got != 0 {
			t.Fatalf("Len(%d): %d", k, got)
		}
	}
	if got := q.Open(); got != open {
		t.Fatalf("Open(): %d; want %d", got, open)
	}
	if got := q.Rests(); got != rests {
		t.Fatalf("Rests(): %v; want %v", got, rests)
	}
}

// takes takes from a class.
func takes(t *testing.T, q *queue.Queue, k, b int, want api.Errno) {
	t.Helper()
	if got, e := q.Take(k); got != b || e != want {
		t.Fatalf("Take(%d): %d, %d; want %d, %d", k, got, e, b, want)
	}
}

// anys takes from whatever class has one.
func anys(t *testing.T, q *queue.Queue, b, k int, want api.Errno) {
	t.Helper()
	if got, of, e := q.Any(); got != b || of != k || e != want {
		t.Fatalf("Any(): %d, %d, %d; want %d, %d, %d", got, of, e, b, k, want)
	}
}

// dones tells that one is done.
func dones(t *testing.T, q *queue.Queue, want api.Errno) {
	t.Helper()
	if e := q.Done(); e != want {
		t.Fatalf("Done(): %d; want %d", e, want)
	}
}

// A new queue has nothing, and rests.
func TestNew(t *testing.T) {
	q := made(t)
	holds(t, q, 0, 0, 0, 0, 0)
	for k := range api.Classes {
		takes(t, q, k, 0, api.ErrNone)
	}
	anys(t, q, 0, 0, api.ErrNone)
	dones(t, q, api.ErrState)
	holds(t, q, 0, 0, 0, 0, 0)
}

// The chapter's example.
func TestExample(t *testing.T) {
	q := made(t, [2]int{2, 5}, [2]int{0, 7})
	anys(t, q, 7, 0, api.OK)
	holds(t, q, 1, 0, 0, 1, 0)
}

// What is no class, or no block, is refused, and changes nothing.
func TestPutRefused(t *testing.T) {
	q := made(t, [2]int{1, 3})
	for _, k := range noClasses() {
		for _, b := range []int{math.MinInt, -1, 0, 1, math.MaxInt} {
			if e := q.Put(k, b); e != api.ErrArg {
				t.Errorf("Put(%d, %d): %d", k, b, e)
			}
		}
	}
	for _, b := range []int{math.MinInt, -4096, -2, -1} {
		for k := range api.Classes {
			if e := q.Put(k, b); e != api.ErrArg {
				t.Errorf("Put(%d, %d): %d", k, b, e)
			}
		}
	}
	holds(t, q, 0, 0, 1, 0, 0)
	takes(t, q, 1, 3, api.OK)
	takes(t, q, 1, 0, api.ErrNone)
}

// A queue knows no config: a block is any number from 0 on, also one that is there already.
func TestPutAny(t *testing.T) {
	q := made(t, [2]int{3, math.MaxInt}, [2]int{3, 0}, [2]int{3, 4096}, [2]int{3, 0}, [2]int{0, 0})
	holds(t, q, 0, 1, 0, 0, 4)
	for _, b := range []int{math.MaxInt, 0, 4096, 0} {
		takes(t, q, 3, b, api.OK)
	}
	takes(t, q, 0, 0, api.OK)
	holds(t, q, 5, 0, 0, 0, 0)
}

// Take takes the first one of its class, whatever the others have.
func TestTake(t *testing.T) {
	q := made(t, [2]int{1, 10}, [2]int{0, 20}, [2]int{1, 11}, [2]int{3, 30}, [2]int{1, 12})
	takes(t, q, 1, 10, api.OK)
	holds(t, q, 1, 1, 2, 0, 1)
	takes(t, q, 2, 0, api.ErrNone)
	for _, k := range noClasses() {
		takes(t, q, k, 0, api.ErrArg)
	}
	holds(t, q, 1, 1, 2, 0, 1)
	takes(t, q, 3, 30, api.OK)
	takes(t, q, 1, 11, api.OK)
	takes(t, q, 1, 12, api.OK)
	takes(t, q, 1, 0, api.ErrNone)
	takes(t, q, 0, 20, api.OK)
	holds(t, q, 5, 0, 0, 0, 0)
}

// Any takes of the least class that has one, its first one; of the greatest too.
func TestAny(t *testing.T) {
	q := made(t, [2]int{3, 1}, [2]int{2, 9}, [2]int{2, 4}, [2]int{3, 0}, [2]int{1, 7})
	anys(t, q, 7, 1, api.OK)
	anys(t, q, 9, 2, api.OK)
	q.Put(0, 50) // less than where it was
	anys(t, q, 50, 0, api.OK)
	anys(t, q, 4, 2, api.OK)
	anys(t, q, 1, 3, api.OK)
	holds(t, q, 5, 0, 0, 0, 1)
	anys(t, q, 0, 3, api.OK)
	anys(t, q, 0, 0, api.ErrNone)
	holds(t, q, 6, 0, 0, 0, 0)
}

// What was taken is open until it is done; with some open it doesn't rest, with some that wait neither.
func TestDone(t *testing.T) {
	q := made(t, [2]int{2, 1}, [2]int{2, 2})
	dones(t, q, api.ErrState)
	holds(t, q, 0, 0, 0, 2, 0)
	takes(t, q, 2, 1, api.OK)
	dones(t, q, api.OK)
	dones(t, q, api.ErrState)
	holds(t, q, 0, 0, 0, 1, 0)
	anys(t, q, 2, 2, api.OK)
	holds(t, q, 1, 0, 0, 0, 0)
	dones(t, q, api.OK)
	holds(t, q, 0, 0, 0, 0, 0)
	dones(t, q, api.ErrState)
}

// It rests only without one that waits, of whatever class.
func TestRests(t *testing.T) {
	for k := range api.Classes {
		q := made(t, [2]int{k, 6})
		if q.Rests() {
			t.Errorf("Rests() with one of class %d: true", k)
		}
		takes(t, q, k, 6, api.OK)
		if q.Rests() {
			t.Errorf("Rests() with one of class %d open: true", k)
		}
		dones(t, q, api.OK)
		if !q.Rests() {
			t.Errorf("Rests() behind one of class %d: false", k)
		}
	}
}

// Queues are apart from each other.
func TestApart(t *testing.T) {
	p, q := made(t, [2]int{1, 5}), made(t, [2]int{1, 6})
	takes(t, p, 1, 5, api.OK)
	holds(t, q, 0, 0, 1, 0, 0)
	takes(t, q, 1, 6, api.OK)
	dones(t, q, api.OK)
	holds(t, p, 1, 0, 0, 0, 0)
}

// A nil queue has nothing, and tells so.
func TestNil(t *testing.T) {
	var q *queue.Queue
	for _, k := range append(noClasses(), 0, 1, 2, 3) {
		for _, b := range []int{-1, 0, 1} {
			if e := q.Put(k, b); e != api.ErrState {
				t.Errorf("Put(%d, %d): %d", k, b, e)
			}
		}
		takes(t, q, k, 0, api.ErrState)
		if n := q.Len(k); n != 0 {
			t.Errorf("Len(%d): %d", k, n)
		}
	}
	anys(t, q, 0, 0, api.ErrState)
	dones(t, q, api.ErrState)
	if q.Open() != 0 || q.Rests() {
		t.Errorf("%d, %v", q.Open(), q.Rests())
	}
}

// A row of all blocks that there may be, put and taken by turns, keeps its order.
func TestLong(t *testing.T) {
	q := made(t)
	next := 0
	for b := range api.MaxBlocks {
		if e := q.Put(2, b); e != api.OK {
			t.Fatalf("Put(2, %d): %d", b, e)
		}
		if b%3 == 2 {
			takes(t, q, 2, next, api.OK)
			next++
		}
	}
	holds(t, q, next, 0, 0, api.MaxBlocks-next, 0)
	for ; next < api.MaxBlocks; next++ {
		takes(t, q, 2, next, api.OK)
	}
	takes(t, q, 2, 0, api.ErrNone)
}

// first takes the first one of a model's row, or none.
func first(row *[]int) (int, api.Errno) {
	if len(*row) == 0 {
		return 0, api.ErrNone
	}
	b := (*row)[0]
	*row = append([]int(nil), (*row)[1:]...)
	return b, api.OK
}

// least is the least class of a model that has some, or the class 0.
func least(rows [4][]int) int {
	for k, row := range rows {
		if len(row) > 0 {
			return k
		}
	}
	return 0
}

// Long runs of whatever calls tell what rows and a number tell.
func TestModel(t *testing.T) {
	for seed := range uint32(20) {
		q, rows, open := made(t), [4][]int{}, 0
		x := seed*2654435761 + 1
		roll := func(n int) int {
			x = x*1664525 + 1013904223
			return int(x>>8) % n
		}
		for range 2000 {
			k := roll(4)
			switch roll(5) {
			case 0, 1:
				b := roll(api.MaxBlocks)
				rows[k] = append(rows[k], b)
				if e := q.Put(k, b); e != api.OK {
					t.Fatalf("Put(%d, %d): %d", k, b, e)
				}
			case 2:
				b, want := first(&rows[k])
				if want == api.OK {
					open++
				}
				takes(t, q, k, b, want)
			case 3:
				k = least(rows)
				b, want := first(&rows[k])
				if want == api.OK {
					open++
				}
				anys(t, q, b, k, want)
			default:
				want := api.OK
				if open == 0 {
					want = api.ErrState
				} else {
					open--
				}
				dones(t, q, want)
			}
			holds(t, q, open, len(rows[0]), len(rows[1]), len(rows[2]), len(rows[3]))
		}
	}
}
