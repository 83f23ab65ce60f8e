package queue_test

import (
	"math"
	"math/rand"
	"runtime"
	"slices"
	"testing"

	"selvage/api"
	"selvage/queue"
)

// edges are numbers at the edges of what a Key and an At may be.
var edges = []int{0, 1, -1, 2, -2, math.MaxInt32, math.MinInt32, 1 << 32, 1<<32 + 1, math.MaxInt - 1, math.MaxInt, math.MinInt + 1, math.MinInt}

// j returns a job.
func j(key, at int) api.Job { return api.Job{Key: key, At: at} }

// model is what should be in a queue: the At of each key.
type model map[int]int

// puts does what Put should.
func (m model) puts(x api.Job) bool {
	at, is := m[x.Key]
	if is && at <= x.At {
		return false
	}
	m[x.Key] = x.At
	return true
}

// all returns what Next should return, one after the other.
func (m model) all() []api.Job {
	var l []api.Job
	for key, at := range m {
		l = append(l, j(key, at))
	}
	slices.SortFunc(l, func(a, b api.Job) int {
		if a.At < b.At || a.At == b.At && a.Key < b.Key {
			return -1
		}
		return 1
	})
	return l
}

// modelOf returns the model of a queue that was made of those jobs.
func modelOf(l []api.Job) model {
	m := model{}
	for _, x := range l {
		m.puts(x)
	}
	return m
}

// same checks that a queue has the model's jobs, and none of those keys else.
func same(t *testing.T, q *queue.Queue, m model, keys ...int) {
	t.Helper()
	if q.Len() != len(m) {
		t.Fatalf("Len = %d, want %d", q.Len(), len(m))
	}
	for key := range m {
		keys = append(keys, key)
	}
	for _, key := range keys {
		at, is := q.At(key)
		if want, there := m[key]; at != want || is != there {
			t.Fatalf("At(%d) = %d, %v, want %d, %v", key, at, is, want, there)
		}
	}
}

// next checks what Next returns, and takes that from the model, too.
func next(t *testing.T, q *queue.Queue, m model) {
	t.Helper()
	var want api.Job
	if l := m.all(); len(l) > 0 {
		want = l[0]
	}
	is := len(m) > 0
	delete(m, want.Key)
	if got, there := q.Next(); got != want || there != is {
		t.Fatalf("Next = %v, %v, want %v, %v", got, there, want, is)
	}
}

// put checks what Put returns, and puts that into the model, too.
func put(t *testing.T, q *queue.Queue, m model, x api.Job) {
	t.Helper()
	want := m.puts(x)
	if got := q.Put(x); got != want {
		t.Fatalf("Put(%v) = %v, want %v", x, got, want)
	}
}

// drop checks what Drop returns, and drops that from the model, too.
func drop(t *testing.T, q *queue.Queue, m model, key int) {
	t.Helper()
	_, want := m[key]
	delete(m, key)
	if got := q.Drop(key); got != want {
		t.Fatalf("Drop(%d) = %v, want %v", key, got, want)
	}
}

// drain checks that Next returns the jobs of l and no more.
func drain(t *testing.T, q *queue.Queue, l []api.Job) {
	t.Helper()
	for i, want := range l {
		if got, is := q.Next(); got != want || !is {
			t.Fatalf("the %d-th Next = %v, %v, want %v of %v", i, got, is, want, l)
		}
		if q.Len() != len(l)-i-1 {
			t.Fatalf("Len = %d after %d of %d jobs", q.Len(), i+1, len(l))
		}
	}
	empty(t, q, l)
}

// empty checks that a queue has no job, among them none of those that it had.
func empty(t *testing.T, q *queue.Queue, had []api.Job) {
	t.Helper()
	if got, is := q.Next(); got != (api.Job{}) || is || q.Len() != 0 {
		t.Fatalf("Next = %v, %v, Len = %d of an empty queue", got, is, q.Len())
	}
	for _, x := range append(slices.Clone(had), j(0, 0)) {
		if at, is := q.At(x.Key); at != 0 || is {
			t.Fatalf("At(%d) = %d, %v of an empty queue", x.Key, at, is)
		}
		if q.Drop(x.Key) {
			t.Fatalf("Drop(%d) = true of an empty queue", x.Key)
		}
	}
}

// P8.1: New

func TestNew(t *testing.T) {
	for _, y := range []struct{ l, want []api.Job }{
		{nil, nil},
		{[]api.Job{}, nil},
		{[]api.Job{j(0, 0)}, []api.Job{j(0, 0)}},
		{[]api.Job{j(1, 5), j(2, 3), j(1, 2)}, []api.Job{j(1, 2), j(2, 3)}},
		{[]api.Job{j(1, 2), j(2, 3), j(1, 5)}, []api.Job{j(1, 2), j(2, 3)}},
		{[]api.Job{j(1, 5), j(1, 5), j(1, 5)}, []api.Job{j(1, 5)}},
		{[]api.Job{j(3, 7), j(1, 7), j(2, 7)}, []api.Job{j(1, 7), j(2, 7), j(3, 7)}},
		{[]api.Job{j(-1, 0), j(0, -1), j(1, 0)}, []api.Job{j(0, -1), j(-1, 0), j(1, 0)}},
		{[]api.Job{j(1, 4), j(2, 4), j(3, 1), j(1, 0), j(2, 9)}, []api.Job{j(1, 0), j(3, 1), j(2, 4)}},
	} {
		same(t, queue.New(y.l), modelOf(y.want), 0, 1, 2, 3)
		drain(t, queue.New(y.l), y.want)
	}
}

// R3: what New is given is neither changed nor kept.
func TestNewLeavesItsArgument(t *testing.T) {
	l := []api.Job{j(1, 5), j(2, 3), j(1, 2), j(9, 1), j(8, 0)}
	was := slices.Clone(l)
	q := queue.New(l)
	q.Put(j(2, -1))
	q.Drop(9)
	if !slices.Equal(l, was) {
		t.Errorf("New's argument is now %v, it was %v", l, was)
	}
	for i := range l {
		l[i] = j(7, -100)
	}
	drain(t, q, []api.Job{j(2, -1), j(8, 0), j(1, 2)})
}

// R4: a queue is its own.
func TestTwoQueues(t *testing.T) {
	l := []api.Job{j(1, 5), j(2, 3)}
	x, y := queue.New(l), queue.New(l)
	put(t, x, modelOf(l), j(1, 1))
	same(t, y, modelOf(l), 1, 2, 3)
	drain(t, x, []api.Job{j(1, 1), j(2, 3)})
	drain(t, y, []api.Job{j(2, 3), j(1, 5)})
}

// P8.1: Put

func TestPut(t *testing.T) {
	q, m := queue.New(nil), model{}
	for _, y := range []struct {
		x    api.Job
		want bool
	}{
		{j(5, 10), true}, {j(5, 10), false}, {j(5, 11), false}, {j(5, math.MaxInt), false}, {j(5, 9), true}, {j(5, 10), false},
		{j(4, 9), true}, {j(6, 9), true}, {j(4, 9), false}, {j(6, 8), true}, {j(0, 0), true}, {j(0, 0), false}, {j(0, 1), false},
		{j(0, -1), true}, {j(-5, -1), true}, {j(5, math.MinInt), true}, {j(5, math.MinInt), false}, {j(5, math.MaxInt), false},
	} {
		if got := q.Put(y.x); got != y.want {
			t.Errorf("Put(%v) = %v, want %v", y.x, got, y.want)
		}
		m.puts(y.x)
		same(t, q, m, -5, 0, 4, 5, 6, 7)
	}
	drain(t, q, []api.Job{j(5, math.MinInt), j(-5, -1), j(0, -1), j(6, 8), j(4, 9)})
}

// A key that is no longer there may be put with any At.
func TestPutAfterNextAndDrop(t *testing.T) {
	q := queue.New([]api.Job{j(1, 1), j(2, 2)})
	m := model{1: 1, 2: 2}
	next(t, q, m)
	put(t, q, m, j(1, 9))
	same(t, q, m, 1, 2)
	drop(t, q, m, 2)
	put(t, q, m, j(2, 10))
	put(t, q, m, j(2, 11))
	same(t, q, m, 1, 2)
	drain(t, q, []api.Job{j(1, 9), j(2, 10)})
	put(t, q, model{}, j(2, 12))
	drain(t, q, []api.Job{j(2, 12)})
}

// Wherever a job stands, and wherever it goes: of each number of jobs, each one
// is replaced by a job that is less than each number of the others.
func TestPutOfLess(t *testing.T) {
	for n := range 18 {
		for from := range n {
			for to := -1; to <= from; to++ {
				var l []api.Job
				for i := range n {
					l = append(l, j(100-i, 2*i))
				}
				q, m := queue.New(l), modelOf(l)
				put(t, q, m, j(100-from, 2*to+1))
				same(t, q, m)
				drain(t, q, m.all())
			}
		}
	}
}

// P8.2: Next

// Numbers are compared as they are, at the edges, too, where their difference is
// none.
func TestNextOfEdges(t *testing.T) {
	r := rand.New(rand.NewSource(1))
	var l []api.Job
	for i, a := range edges {
		l = append(l, j(i, a))
	}
	for range 200 {
		r.Shuffle(len(l), func(a, b int) { l[a], l[b] = l[b], l[a] })
		drain(t, queue.New(l), modelOf(l).all())
	}
	for _, at := range edges {
		for i := range l {
			l[i] = j(edges[i], at)
		}
		for range 20 {
			r.Shuffle(len(l), func(a, b int) { l[a], l[b] = l[b], l[a] })
			drain(t, queue.New(l), modelOf(l).all())
		}
	}
	for _, a := range edges {
		for _, b := range edges {
			m := model{7: a}
			q := queue.New(m.all())
			put(t, q, m, j(7, b))
			put(t, q, m, j(8, a))
			drain(t, q, m.all())
		}
	}
}

// What Next returns for a zero job and what it returns for none are told apart.
func TestNextOfZero(t *testing.T) {
	q := queue.New([]api.Job{{}})
	same(t, q, model{0: 0}, 0, 1)
	if x, is := q.Next(); x != (api.Job{}) || !is {
		t.Errorf("Next = %v, %v of a zero job", x, is)
	}
	empty(t, q, nil)
}

// What is put in between comes in its turn, though it be less than what has been
// returned.
func TestNextWithPutBetween(t *testing.T) {
	q, m := queue.New([]api.Job{j(1, 10), j(2, 20), j(3, 30)}), model{1: 10, 2: 20, 3: 30}
	next(t, q, m)
	put(t, q, m, j(4, 25))
	put(t, q, m, j(5, 5))
	next(t, q, m)
	put(t, q, m, j(3, 15))
	drain(t, q, []api.Job{j(3, 15), j(2, 20), j(4, 25)})
}

// P8.2: Drop, Len and At

func TestDrop(t *testing.T) {
	q := queue.New([]api.Job{j(1, 5), j(2, 3), j(3, 4)})
	m := model{1: 5, 2: 3, 3: 4}
	for _, key := range []int{0, 4, -1, 5, -2, math.MinInt, math.MaxInt, 1 + 1<<32} {
		drop(t, q, m, key)
		same(t, q, m, key)
	}
	for _, key := range []int{2, 2, 1, 1, 3, 3} {
		drop(t, q, m, key)
		same(t, q, m, 1, 2, 3)
	}
	empty(t, q, []api.Job{j(1, 5), j(2, 3), j(3, 4)})
}

// Of each order of six jobs, each one is dropped, the least and the last one
// among them.
func TestDropOfAll(t *testing.T) {
	all(make([]api.Job, 6), 0, func(l []api.Job) {
		for i := range l {
			q, m := queue.New(l), modelOf(l)
			drop(t, q, m, l[i].Key)
			same(t, q, m, l[i].Key)
			drain(t, q, m.all())
		}
	})
}

// What stands at the end of a heap and takes the place of what is dropped may be
// less than what stands above that place.
func TestDropThatRaises(t *testing.T) {
	l := []api.Job{j(0, 0), j(1, 50), j(2, 1), j(3, 60), j(4, 70), j(5, 2), j(6, 3), j(7, 80), j(8, 90), j(9, 75), j(10, 76), j(11, 4), j(12, 5)}
	for _, x := range l {
		q, m := queue.New(l), modelOf(l)
		drop(t, q, m, x.Key)
		drain(t, q, m.all())
	}
}

// all calls do with each order of that many jobs, of which two have the same At.
func all(l []api.Job, n int, do func([]api.Job)) {
	if n == len(l) {
		do(slices.Clone(l))
		return
	}
	for i := range len(l) {
		x := j(i, 10-(i+1)/2)
		if !slices.Contains(l[:n], x) {
			l[n] = x
			all(l, n+1, do)
		}
	}
}

// Len and At change nothing.
func TestLenAndAtLeaveAll(t *testing.T) {
	r := rand.New(rand.NewSource(2))
	for range 100 {
		var l []api.Job
		for range r.Intn(40) {
			l = append(l, j(r.Intn(30), r.Intn(20)))
		}
		q := queue.New(l)
		for range 3 {
			same(t, q, modelOf(l), -1, 0, 7, 29, 30)
		}
		drain(t, q, modelOf(l).all())
	}
}

// P8.3

// Of all lists of up to five jobs of three keys and three times, Next returns
// the least ones of each key in their order.
func TestAllLists(t *testing.T) {
	for n := range 6 {
		count := 1
		for range n {
			count *= 9
		}
		for what := range count {
			l := make([]api.Job, n)
			for i := range l {
				l[i] = j(what%3, what/3%3)
				what /= 9
			}
			drain(t, queue.New(l), modelOf(l).all())
		}
	}
}

// The theorem in its own words, of many jobs.
func TestManyJobs(t *testing.T) {
	r := rand.New(rand.NewSource(3))
	for _, keys := range []int{1, 2, 10, 1000, math.MaxInt} {
		var l []api.Job
		least := map[int]int{}
		for range 5000 {
			x := j(r.Intn(keys), r.Intn(500)-250)
			l = append(l, x)
			if at, is := least[x.Key]; !is || x.At < at {
				least[x.Key] = x.At
			}
		}
		q := queue.New(l)
		last := j(math.MinInt, math.MinInt)
		for q.Len() > 0 {
			x, is := q.Next()
			if !is || x.At < last.At || x.At == last.At && x.Key <= last.Key {
				t.Fatalf("Next = %v, %v after %v", x, is, last)
			}
			if at, there := least[x.Key]; !there || at != x.At {
				t.Fatalf("Next = %v, the least is %d, %v", x, at, there)
			}
			delete(least, x.Key)
			last = x
		}
		if len(least) > 0 {
			t.Fatalf("%d keys were not returned", len(least))
		}
		empty(t, q, l)
	}
}

// step does with a queue what a number says.
func step(t *testing.T, q *queue.Queue, m model, what int, x api.Job) {
	t.Helper()
	switch what % 8 {
	case 0:
		next(t, q, m)
	case 1:
		drop(t, q, m, x.Key)
	default:
		put(t, q, m, x)
	}
}

// A queue does for a long time what its model does.
func TestManySteps(t *testing.T) {
	r := rand.New(rand.NewSource(4))
	for _, keys := range []int{1, 2, 3, 10, 60, 300} {
		for _, times := range []int{1, 3, 100, math.MaxInt} {
			q, m := queue.New(nil), model{}
			for i := range 3000 {
				// Now the queue grows, and now it gets less.
				what := r.Intn(8)
				if i/500%2 == 1 {
					what = r.Intn(3)
				}
				step(t, q, m, what, j(r.Intn(keys)-keys/2, r.Intn(times)-times/2))
				if i%10 == 0 {
					same(t, q, m, r.Intn(2*keys)-keys)
				}
			}
			drain(t, q, m.all())
		}
	}
}

// No more is kept than is needed: of what was dropped, returned or replaced,
// nothing is left.
func TestNothingIsLeft(t *testing.T) {
	q := queue.New([]api.Job{j(0, math.MaxInt)})
	heap := func() uint64 {
		var s runtime.MemStats
		runtime.GC()
		runtime.ReadMemStats(&s)
		return s.HeapAlloc
	}
	before := heap()
	for i := range 100000 {
		key := i*2 + 1
		if !q.Put(j(key, key)) || !q.Put(j(key+1, key)) || !q.Drop(key+1) || !q.Put(j(0, -i)) || !q.Put(j(key, -key)) {
			t.Fatalf("%d could not be put, or not be dropped", key)
		}
		if x, is := q.Next(); x != j(key, -key) || !is {
			t.Fatalf("Next = %v, %v, want %d", x, is, key)
		}
	}
	if after := heap(); after > before+1<<20 {
		t.Errorf("%d bytes are kept after all was removed, %d before", after, before)
	}
	drain(t, q, []api.Job{j(0, -99999)})
}

// FuzzSteps searches for steps after which a queue is not what its model is: of
// each three bytes, a job is put, returned or dropped.
func FuzzSteps(f *testing.F) {
	f.Add(0, []byte{2, 1, 5, 2, 2, 3, 2, 1, 2})
	f.Add(math.MaxInt, []byte{2, 1, 5, 3, 1, 250, 0, 0, 0, 1, 1, 0})
	f.Add(math.MinInt, []byte{2, 1, 5, 2, 2, 5, 2, 3, 5, 1, 1, 0, 2, 2, 4})
	f.Fuzz(func(t *testing.T, base int, b []byte) {
		q, m := queue.New(nil), model{}
		for c := range slices.Chunk(b[:min(len(b), 1500)], 3) {
			if len(c) < 3 {
				break
			}
			// Around the base, numbers may wrap round.
			x := j(base+int(int8(c[1])), base+int(int8(c[2])))
			step(t, q, m, int(c[0]), x)
			same(t, q, m, x.Key, x.At)
		}
		drain(t, q, m.all())
	})
}
