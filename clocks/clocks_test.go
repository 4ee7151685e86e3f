package clocks_test

import (
	"math"
	"testing"

	"millstream/clocks"
)

func TestIsBehind(t *testing.T) {
	low, high := int64(math.MinInt64), int64(math.MaxInt64)
	for i, x := range []struct {
		then, now, timeout int64
		want               bool
	}{
		{0, 5, 5, false}, {0, 6, 5, true}, {6, 0, 5, false}, {0, 0, 0, false}, {0, 0, -1, true},
		{3, 0, -3, false}, {2, 0, -3, true}, {low, high, high, true}, {low, high, low, true}, {high, low, low, false},
		{high, low, 0, false}, {0, low, low, false}, {0, low + 1, low, true}, {0, high, high, false}, {-1, high, high, true},
	} {
		if clocks.IsBehind(x.then, x.now, x.timeout) != x.want {
			t.Errorf("%d: %+v", i, x)
		}
	}
}
