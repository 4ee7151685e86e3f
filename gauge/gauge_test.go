package gauge_test

import (
	"math"
	"slices"
	"strconv"
	"strings"
	"testing"

	"millstream/api"
	"millstream/gauge"
)

func counter(t *testing.T, s *gauge.Set, name string) *gauge.Counter {
	t.Helper()
	c, e := s.Counter(name)
	if e != api.OK || c == nil {
		t.Fatal(name, e)
	}
	return c
}

func TestIsName(t *testing.T) {
	for s, want := range map[string]int{"a": 1, "z9-": 1, "-": 1, "0": 1, "abcdefghijklmnop": 1, "": 0, "abcdefghijklmnopq": 0, "A": 0, "a b": 0, "a_": 0, "ä": 0, "a\x00": 0, "`": 0, "{": 0, "/": 0, ":": 0} {
		if gauge.IsName(s) != (want == 1) {
			t.Errorf("IsName(%q)", s)
		}
		c, e := gauge.New().Counter(s)
		if want == 1 && (e != api.OK || c == nil) || want == 0 && (e != api.ErrForm || c != nil) {
			t.Errorf("Counter(%q): %d", s, e)
		}
	}
}

func TestCounter(t *testing.T) {
	s := gauge.New()
	c := counter(t, s, "a")
	if c.Value() != 0 || c.Add(2) != 2 || c.Add(3) != 5 || c.Add(-6) != -1 || c.Value() != -1 {
		t.Error(c.Value())
	}
	if c.Max(-5) != -1 || c.Max(7) != 7 || c.Max(7) != 7 || c.Max(6) != 7 || c.Value() != 7 {
		t.Error(c.Value())
	}
	if counter(t, s, "a") != c || counter(t, s, "b") == c || counter(t, gauge.New(), "a").Value() != 0 {
		t.Error("a counter isn't its name's")
	}
	if c.Add(math.MaxInt64) != math.MinInt64+6 {
		t.Error("a value doesn't go round:", c.Value())
	}
	if c.Max(math.MinInt64) != math.MinInt64+6 {
		t.Error(c.Value())
	}
}

func TestAll(t *testing.T) {
	s := gauge.New()
	if len(s.All()) != 0 || s.Sum() != 0 {
		t.Error("a new set has something")
	}
	for i, name := range strings.Fields("b a-1 a 9 -") {
		counter(t, s, name).Add(int64(i + 1))
	}
	want := []api.Gauge{{Name: "-", Value: 5}, {Name: "9", Value: 4}, {Name: "a", Value: 3}, {Name: "a-1", Value: 2}, {Name: "b", Value: 1}}
	if !slices.Equal(s.All(), want) || s.Sum() != 15 {
		t.Error(s.All(), s.Sum())
	}
	s.All()[0].Value = 99
	counter(t, s, "b").Add(math.MaxInt64 - 1)
	if s.Sum() != math.MinInt64+13 {
		t.Error(s.Sum())
	}
}

func TestMany(t *testing.T) {
	s := gauge.New()
	for i := range 64 {
		counter(t, s, "c"+strconv.Itoa(i))
	}
	if c, e := s.Counter("one-more"); c != nil || e != api.ErrMany {
		t.Error(e)
	}
	if _, e := s.Counter("ONE MORE"); e != api.ErrForm {
		t.Error(e)
	}
	counter(t, s, "c63")
	if len(s.All()) != 64 {
		t.Error(len(s.All()))
	}
}

func TestNil(t *testing.T) {
	var s *gauge.Set
	c, e := s.Counter("a")
	if c != nil || e != api.ErrArg || len(s.All()) != 0 || s.Sum() != 0 {
		t.Error(e)
	}
	if c.Add(5) != 0 || c.Max(5) != 0 || c.Value() != 0 {
		t.Error("a nil counter counts")
	}
}
