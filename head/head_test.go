package head_test

import (
	"math"
	"testing"

	"millstream/api"
	"millstream/head"
)

func numbers() []int32 { return []int32{0, 1, -1, 8, 255, 256, -256, math.MinInt32, math.MaxInt32} }

func TestRecord(t *testing.T) {
	if v := head.Record(8, 1); v != 4294967304 {
		t.Error(v)
	}
	if v := head.Record(-1, api.PadRecord); v != math.MaxUint64 {
		t.Error(v)
	}
	for _, a := range numbers() {
		for _, b := range numbers() {
			if x, y := head.Split(head.Record(a, b)); x != a || y != b {
				t.Errorf("Record(%d, %d) tells %d, %d", a, b, x, y)
			}
		}
	}
}

func TestWords(t *testing.T) {
	f := api.Frame{Length: 0x04030201, Version: 5, Flags: 6, Type: 0x0807, Offset: 0x14131211, Session: 0x18171615, Stream: 0x24232221, Term: 0x28272625, Reserved: 0x3837363534333231}
	want := [4]uint64{0x0807060504030201, 0x1817161514131211, 0x2827262524232221, 0x3837363534333231}
	if w := head.Words(f); w != want {
		t.Errorf("%x", w)
	}
	if g := head.Frame(want); g != f {
		t.Errorf("%+v", g)
	}
	if w := head.Words(api.Frame{Length: -32, Type: 0xffff}); w != [4]uint64{0xffff0000ffffffe0} {
		t.Errorf("%x", w)
	}
	for _, n := range numbers() {
		f := api.Frame{Length: n, Version: uint8(n), Flags: uint8(n) ^ 1, Type: uint16(n), Offset: n ^ 2, Session: n ^ 3, Stream: n ^ 4, Term: n ^ 5, Reserved: uint64(n)}
		if g := head.Frame(head.Words(f)); g != f {
			t.Errorf("%+v tells %+v", f, g)
		}
		w := [4]uint64{uint64(n), uint64(n) ^ 1<<63, uint64(n) ^ 1<<32, ^uint64(n)}
		if x := head.Words(head.Frame(w)); x != w {
			t.Errorf("%x tells %x", w, x)
		}
	}
}

func TestFlags(t *testing.T) {
	if head.Flags(false, false) != 0 || head.Flags(true, false) != 128 || head.Flags(false, true) != 64 || head.Flags(true, true) != 192 {
		t.Error("flags")
	}
}

func TestSizes(t *testing.T) {
	for _, x := range []struct {
		n, record, frame int
		e                api.Errno
	}{
		{0, 8, 32, api.OK}, {1, 16, 64, api.OK}, {8, 16, 64, api.OK}, {9, 24, 64, api.OK},
		{32, 40, 64, api.OK}, {33, 48, 96, api.OK}, {api.MaxBuffer, api.MaxBuffer + 8, api.MaxBuffer + 32, api.OK},
		{-1, 0, 0, api.ErrArg}, {api.MaxBuffer + 1, 0, 0, api.ErrArg}, {math.MaxInt, 0, 0, api.ErrArg}, {math.MinInt, 0, 0, api.ErrArg},
	} {
		if v, e := head.RecordSize(x.n); v != x.record || e != x.e {
			t.Errorf("RecordSize(%d) = %d, %d", x.n, v, e)
		}
		if v, e := head.FrameSize(x.n); v != x.frame || e != x.e {
			t.Errorf("FrameSize(%d) = %d, %d", x.n, v, e)
		}
	}
}
