package explore

import (
	"testing"

	"millstream/api"
	"millstream/world"
)

// TestIsOdd: a play that did what none may do is odd, told by a setup that isn't its own.
func TestIsOdd(t *testing.T) {
	s := func(data string, kind int) api.Setup {
		return api.Setup{Log: api.Log{Term: 512, Mtu: 32, Subs: 2}, Writers: [][]api.Op{{{Kind: kind, Data: []byte(data)}, {Data: []byte("more")}}}, Tries: 9, Polls: 9, Most: 1, Timeout: 99}
	}
	f, _ := world.New(s("data", api.OpCommit))
	f.Rounds(60)
	if len(f.Messages(1)) != 2 || isOdd(f, s("data", api.OpCommit)) {
		t.Error("what was done is odd")
	}
	moved := s("data", api.OpCommit)
	moved.Log.Initial = 1
	for i, x := range []api.Setup{s("date", api.OpCommit), s("data", api.OpAbort), moved} {
		if !isOdd(f, x) {
			t.Error(i, "isn't odd")
		}
	}
	two := s("data", api.OpCommit)
	two.Writers = append(two.Writers, []api.Op{{Data: []byte("ahead")}})
	g, _ := world.New(two)
	g.Run(Picks([]int{1, 1, 1, 1, 1, 1, 1, 1, 1, 1}))
	g.Rounds(60)
	if l := g.Messages(0); len(l) != 3 || string(l[0].Data) != "ahead" || isOdd(g, two) {
		t.Error("the order of ends isn't that of writers:", l)
	}
	a, b := api.Got{End: 32}, api.Got{End: 64, Data: []byte("x")}
	for i, x := range []struct {
		read, put []api.Got
		want      bool
	}{
		{nil, nil, true}, {nil, []api.Got{a}, true}, {[]api.Got{a}, []api.Got{a, b}, true}, {[]api.Got{a, b}, []api.Got{a}, false},
		{[]api.Got{b}, []api.Got{a, b}, false}, {[]api.Got{{End: 64}}, []api.Got{b}, false}, {[]api.Got{{End: 96, Data: []byte("x")}}, []api.Got{b}, false},
	} {
		if isBeginning(x.read, x.put) != x.want {
			t.Error(i)
		}
	}
}
