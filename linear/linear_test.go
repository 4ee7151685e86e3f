package linear_test

import (
	"slices"
	"testing"

	"millstream/api"
	"millstream/drill"
	"millstream/linear"
)

func put(v, from, to int) api.QueueOp  { return api.QueueOp{Put: true, Value: v, From: from, To: to} }
func take(v, from, to int) api.QueueOp { return api.QueueOp{Value: v, From: from, To: to} }

func TestLinear(t *testing.T) {
	for name, x := range map[string]struct {
		l   []api.QueueOp
		row []int
		ok  bool
		e   api.Errno
	}{
		"nothing":                 {nil, nil, true, api.OK},
		"put, then taken":         {[]api.QueueOp{put(1, 0, 1), take(1, 2, 3)}, []int{0, 1}, true, api.OK},
		"taken ahead of its put":  {[]api.QueueOp{take(1, 0, 1), put(1, 2, 3)}, nil, false, api.OK},
		"a value of 0":            {[]api.QueueOp{take(0, 0, 1)}, nil, false, api.OK},
		"at once":                 {[]api.QueueOp{take(1, 0, 2), put(1, 2, 3)}, []int{1, 0}, true, api.OK},
		"none, ahead of all":      {[]api.QueueOp{put(1, 1, 2), take(-1, 0, 0)}, []int{1, 0}, true, api.OK},
		"none, though one stands": {[]api.QueueOp{put(1, 0, 0), take(-5, 1, 1)}, nil, false, api.OK},
		"not in order":            {[]api.QueueOp{put(1, 0, 0), put(2, 1, 1), take(2, 2, 2)}, nil, false, api.OK},
		"the first of all rows":   {[]api.QueueOp{put(2, 0, 9), put(1, 0, 9), take(1, 0, 9), take(2, 0, 9)}, []int{0, 1, 3, 2}, true, api.OK},
		"a value twice":           {[]api.QueueOp{put(1, 0, 0), put(1, 1, 1), take(1, 2, 2), take(1, 3, 3), take(-1, 4, 4)}, []int{0, 1, 2, 3, 4}, true, api.OK},
		"too many":                {append(make([]api.QueueOp, 10), put(-1, 3, 2)), nil, false, api.ErrMany},
		"a moment turned round":   {[]api.QueueOp{take(1, 2, 1)}, nil, false, api.ErrArg},
		"a value below 0":         {[]api.QueueOp{put(-1, 1, 2)}, nil, false, api.ErrArg},
	} {
		row, ok, e := linear.Linear(x.l)
		if !slices.Equal(row, x.row) || ok != x.ok || e != x.e {
			t.Errorf("%s: %v, %v, %d", name, row, ok, e)
		}
	}
	var ten []api.QueueOp
	for i := range 9 {
		ten = append(ten, put(i, 0, 9))
	}
	if _, ok, e := linear.Linear(append(ten, take(99, 0, 9))); ok || e != api.OK {
		t.Error(ok, e)
	}
}

func TestDoesAndFits(t *testing.T) {
	l := []api.QueueOp{put(1, 0, 0), put(2, 1, 5), take(1, 2, 3), take(-1, 0, 9)}
	for i, x := range []struct {
		row        []int
		does, fits bool
	}{
		{[]int{3, 0, 1, 2}, true, true}, {[]int{0, 2, 3, 1}, true, true}, {[]int{0, 1, 2, 3}, false, true}, {[]int{3, 0, 2, 1}, true, true},
		{[]int{3, 2, 0, 1}, false, false}, {[]int{3, 1, 0, 2}, false, false}, {[]int{0, 1, 2}, false, false}, {[]int{0, 1, 2, 2}, false, false}, {[]int{0, 1, 2, 4}, false, false},
		{[]int{0, 1, 2, -1}, false, false}, {nil, false, false}, {[]int{0, 1, 2, 3, 3}, false, false},
	} {
		if d, f := linear.Does(l, x.row), linear.Fits(l, x.row); d != x.does || f != x.fits {
			t.Error(i, d, f)
		}
	}
	if !linear.Does(nil, nil) || !linear.Fits(nil, nil) {
		t.Error("of nothing")
	}
	if !linear.Does([]api.QueueOp{put(-3, 0, 0), take(-1, 0, 0)}[:1], []int{0}) || linear.Does([]api.QueueOp{put(-3, 0, 0), take(-3, 0, 0)}, []int{0, 1}) {
		t.Error("none is taken just of an empty queue")
	}
}

// rows are all rows of n numbers, in order.
func rows(n int) [][]int {
	if n == 0 {
		return [][]int{nil}
	}
	var l [][]int
	var try func(row []int)
	try = func(row []int) {
		if len(row) == n {
			l = append(l, slices.Clone(row))
		}
		for k := range n {
			if !slices.Contains(row, k) {
				try(append(row, k))
			}
		}
	}
	try(nil)
	return l
}

// TestAllRows holds Linear against a look through all rows.
func TestAllRows(t *testing.T) {
	r := drill.Rand(47)
	linears := 0
	for range 600 {
		var l []api.QueueOp
		for range r.Below(7) {
			from := r.Below(8)
			l = append(l, api.QueueOp{Put: r.Below(2) == 0, Value: r.Below(3), From: from, To: from + r.Below(4)})
			if k := len(l) - 1; !l[k].Put && r.Below(4) == 0 {
				l[k].Value = -1
			}
		}
		var want []int
		found := false
		for _, row := range rows(len(l)) {
			if linear.Does(l, row) && linear.Fits(l, row) {
				want, found = row, true
				break
			}
		}
		row, ok, e := linear.Linear(l)
		if e != api.OK || ok != found || !slices.Equal(row, want) {
			t.Fatalf("%+v: %v, %v, want %v", l, row, ok, want)
		}
		if ok {
			linears++
		}
	}
	if linears < 100 {
		t.Error(linears)
	}
}

func TestOfRing(t *testing.T) {
	call := func(from, to int, e api.Errno) api.Call { return api.Call{From: from, To: to, Error: e} }
	puts := []api.Call{call(0, 1, 0), call(4, 5, 0), call(2, 3, api.ErrFull), call(-1, -1, 0)}
	taken := []api.QueueOp{take(10, 8, 9)}
	spare := append(make([]api.QueueOp, 0, 9), taken...)
	got := linear.OfRing(puts, []int{10, 20, 30, 40}, spare)
	if !slices.Equal(got, []api.QueueOp{put(10, 0, 1), put(20, 4, 5), take(10, 8, 9)}) {
		t.Errorf("%+v", got)
	}
	if l := linear.OfRing(puts, []int{7}, nil); !slices.Equal(l, []api.QueueOp{put(7, 0, 1)}) {
		t.Error(l)
	}
	if l := linear.OfRing(nil, nil, spare); !slices.Equal(l, taken) {
		t.Error(l)
	}
	got = linear.OfRing(nil, []int{1}, spare)
	_ = append(got, put(1, 1, 1))
	got[0].Value = 99
	if spare[:2][1] != (api.QueueOp{}) || spare[0].Value != 10 {
		t.Error("shared")
	}
	if l := linear.OfRing(puts, []int{1, 2, 3, 4, 5, 6, 7}, nil); len(l) != 2 {
		t.Error(l)
	}
}
