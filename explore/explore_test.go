package explore_test

import (
	"math"
	"slices"
	"testing"

	"millstream/api"
	"millstream/drill"
	"millstream/explore"
	"millstream/world"
)

func bad() [][]int {
	return [][]int{{-1}, {1, 65}, make([]int, 9), {math.MaxInt}, {math.MinInt, 0}}
}

func TestFirst(t *testing.T) {
	for i, x := range []struct{ counts, row []int }{
		{nil, nil}, {[]int{0, 0}, nil}, {[]int{2, 0, 1}, []int{0, 0, 2}}, {[]int{0, 3}, []int{1, 1, 1}},
	} {
		if row, e := explore.First(x.counts); e != api.OK || !slices.Equal(row, x.row) {
			t.Error(i, row, e)
		}
	}
	for _, c := range bad() {
		row, e := explore.First(c)
		n, f := explore.Count(c)
		nth, g := explore.Nth(c, -1)
		if e != api.ErrArg || f != e || g != e || len(row)+len(nth)+int(n) != 0 {
			t.Error(c, e, f, g)
		}
	}
	if row, e := explore.First(make([]int, 8)); e != api.OK || len(row) != 0 {
		t.Error(e)
	}
}

func TestNext(t *testing.T) {
	for i, x := range []struct {
		row, next []int
		ok        bool
	}{
		{nil, nil, false}, {[]int{5}, nil, false}, {[]int{1, 1}, nil, false}, {[]int{2, 1, 0, -3}, nil, false},
		{[]int{0, 1}, []int{1, 0}, true}, {[]int{0, 2, 1, 1}, []int{1, 0, 1, 2}, true}, {[]int{0, 0, 1}, []int{0, 1, 0}, true}, {[]int{-5, 7, 7}, []int{7, -5, 7}, true},
	} {
		given := slices.Clone(x.row)
		next, ok := explore.Next(given)
		if ok != x.ok || !slices.Equal(next, x.next) || !slices.Equal(given, x.row) {
			t.Error(i, next, ok)
		}
	}
}

func TestCount(t *testing.T) {
	for i, x := range []struct {
		counts []int
		want   int64
	}{
		{nil, 1}, {[]int{0}, 1}, {[]int{64}, 1}, {[]int{2, 1}, 3}, {[]int{2, 2, 2}, 90}, {[]int{10, 10}, 184756}, {[]int{30, 30}, 118264581564861424},
		{[]int{64, 64}, 1 << 62}, {[]int{64, 64, 64, 64, 64, 64, 64, 64}, 1 << 62}, {[]int{64, 1}, 65}, {[]int{1, 64, 1}, 65 * 66}, {[]int{3, 3, 3, 3, 3, 3}, 137225088000},
	} {
		if n, e := explore.Count(x.counts); n != x.want || e != api.OK {
			t.Error(i, n, e)
		}
	}
}

func TestNth(t *testing.T) {
	for i, x := range []struct {
		counts []int
		n      int64
		row    []int
		e      api.Errno
	}{
		{[]int{2, 1}, 0, []int{0, 0, 1}, api.OK}, {[]int{2, 1}, 1, []int{0, 1, 0}, api.OK}, {[]int{2, 1}, 2, []int{1, 0, 0}, api.OK},
		{[]int{2, 1}, 3, nil, api.ErrRange}, {[]int{2, 1}, -1, nil, api.ErrRange}, {nil, 0, nil, api.OK}, {nil, 1, nil, api.ErrRange},
		{[]int{64, 64}, 0, nil, api.ErrLong}, {[]int{2}, math.MaxInt64, nil, api.ErrRange},
	} {
		if row, e := explore.Nth(x.counts, x.n); e != x.e || !slices.Equal(row, x.row) {
			t.Error(i, row, e)
		}
	}
	counts := []int{5, 0, 64}
	all, _ := explore.Count(counts)
	row, e := explore.Nth(counts, all-1)
	if _, more := explore.Next(row); e != api.OK || more || len(row) != 69 {
		t.Error(row, e)
	}
}

// TestThroughAll: from the first one on, Next goes through all schedules, each once, in order, as many as Count.
func TestThroughAll(t *testing.T) {
	for _, counts := range [][]int{{}, {3}, {2, 1}, {2, 2, 2}, {1, 0, 3, 1}, {1, 1, 1, 1, 1, 1}, {6, 5}} {
		all, _ := explore.Count(counts)
		row, _ := explore.First(counts)
		n := int64(0)
		for more := true; more; n++ {
			if nth, e := explore.Nth(counts, n); e != api.OK || !slices.Equal(nth, row) {
				t.Fatalf("%v: %d is %v, not %v", counts, n, nth, row)
			}
			for i, c := range counts {
				k := 0
				for _, x := range row {
					if x == i {
						k++
					}
				}
				if k != c {
					t.Fatal(counts, row)
				}
			}
			var next []int
			next, more = explore.Next(row)
			if more && slices.Compare(row, next) >= 0 {
				t.Fatal("not in order:", row, next)
			}
			row = next
		}
		if n != all {
			t.Errorf("%v: %d of %d", counts, n, all)
		}
	}
}

func TestPicks(t *testing.T) {
	if p := explore.Picks([]int{3, 0, -1}); !slices.Equal(p, []api.Pick{{Actor: 3}, {Actor: 0}, {Actor: -1}}) || len(explore.Picks(nil)) != 0 {
		t.Error(p)
	}
}

func setup() api.Setup {
	return api.Setup{Log: api.Log{Term: 256, Mtu: 32, Subs: 1}, Writers: [][]api.Op{{{}}, {{Data: []byte("x")}}}, Tries: 9, Polls: 9, Most: 2, Cleans: 2, Looks: 2, Timeout: 5}
}

func TestExplore(t *testing.T) {
	s := setup()
	wrong, more := s, s
	wrong.Timeout = -1
	more.Writers = make([][]api.Op, 9)
	for i, x := range []struct {
		s      api.Setup
		counts []int
		from   int64
		most   int
		want   api.Explored
		e      api.Errno
	}{
		{wrong, []int{-1}, -1, -1, api.Explored{}, api.ErrArg}, {more, []int{-1}, -1, -1, api.Explored{}, api.ErrMany},
		{s, []int{-1}, -1, 0, api.Explored{}, api.ErrArg}, {s, []int{2, 1}, 3, 5, api.Explored{}, api.ErrRange}, {s, []int{64, 64}, 0, 5, api.Explored{}, api.ErrLong},
		{s, []int{2, 1}, 0, 1001, api.Explored{}, api.ErrArg}, {s, []int{2, 1}, 0, -1, api.Explored{}, api.ErrArg},
		{s, []int{2, 1}, 0, 0, api.Explored{}, api.OK}, {s, []int{2, 1}, 1, 1000, api.Explored{Runs: 2, Ends: 1}, api.OK}, {s, []int{2, 1}, 0, 2, api.Explored{Runs: 2, Ends: 1}, api.OK},
		{s, nil, 0, 9, api.Explored{Runs: 1, Ends: 1}, api.OK}, {s, []int{5, 5}, 0, 1000, api.Explored{Runs: 252, Ends: 2}, api.OK},
		{s, []int{0, 0, 0, 0, 0, 0, 3}, 0, 9, api.Explored{Runs: 1, Ends: 1}, api.OK},
	} {
		if got, e := explore.Explore(x.s, x.counts, x.from, x.most); got != x.want || e != x.e {
			t.Errorf("%d: %+v, %d", i, got, e)
		}
	}
}

// TestNoneIsOdd: no schedule of a setup whose Most is 1 or more is odd.
func TestNoneIsOdd(t *testing.T) {
	r := drill.Rand(48)
	for range 12 {
		s := r.Setup()
		f, _ := world.New(s)
		var counts []int
		for range min(f.Actors(), 8) {
			counts = append(counts, r.Below(4))
		}
		all, _ := explore.Count(counts)
		from := int64(r.Next()>>1) % all
		x, e := explore.Explore(s, counts, from, 200)
		if e != api.OK || x.Odd != 0 || int64(x.Runs) != min(all-from, 200) || x.Ends < 1 || x.Ends > x.Runs {
			t.Fatalf("%+v, %d", x, e)
		}
	}
	s := setup()
	s.Tries, s.Polls = 99, 99
	if x, e := explore.Explore(s, []int{10, 11, 14}, 1e9, 1000); e != api.OK || x.Odd != 0 || x.Runs != 1000 {
		t.Error(x, e)
	}
	// A reader that may read no frame tells an error: each play is odd.
	s.Most = 0
	if x, e := explore.Explore(s, []int{1, 1}, 0, 9); e != api.OK || x.Odd != 2 {
		t.Error(x, e)
	}
}
