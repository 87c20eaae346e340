package graph_test

import (
	"math/rand"
	"slices"
	"testing"

	"recto/api"
	"recto/graph"
)

// fork: 1 is a root; 2 and 3 on it; 4 merges 2, 3; 5 merges 3, 2; 6 is a root of its own; 7 on 4.
func fork() graph.Graph {
	return graph.Graph{nil, {1}, {1}, {2, 3}, {3, 2}, nil, {4}}
}

func TestCheck(t *testing.T) {
	chain := graph.Graph{nil}
	for i := 1; i < 1024; i++ {
		chain = append(chain, []int{i})
	}
	for i, c := range []struct {
		g    graph.Graph
		want api.Errno
	}{
		{nil, api.OK}, {fork(), api.OK}, {chain, api.OK}, {append(chain[:1024:1024], []int{0}), api.ErrLong}, {graph.Graph{{0}}, api.ErrArg}, {graph.Graph{{1}}, api.ErrArg}, {graph.Graph{nil, {2}}, api.ErrArg},
		{graph.Graph{nil, {-1}}, api.ErrArg}, {graph.Graph{nil, nil, nil, {1, 2, 3}}, api.ErrArg}, {graph.Graph{nil, nil, {1, 1}}, api.ErrTwice}, {graph.Graph{nil, {1, 1}, {0}}, api.ErrTwice}, {graph.Graph{nil, {1, 1, 1}}, api.ErrArg}, {graph.Graph{nil, {0, 0}}, api.ErrArg},
	} {
		if got := c.g.Check(); got != c.want {
			t.Errorf("%d: %v", i, got)
		}
	}
}

func TestAncestors(t *testing.T) {
	g := fork()
	for _, c := range []struct{ c, want []int }{
		{nil, nil}, {[]int{1}, []int{1}}, {[]int{7}, []int{1, 2, 3, 4, 7}}, {[]int{6, 2, 6}, []int{1, 2, 6}}, {[]int{0, -1, 8}, nil}, {[]int{8, 3}, []int{1, 3}},
	} {
		if got := g.Ancestors(c.c...); !slices.Equal(got, c.want) {
			t.Errorf("%v: %v", c.c, got)
		}
	}
	for _, c := range []struct {
		a, c int
		want bool
	}{{1, 1, true}, {1, 7, true}, {7, 1, false}, {5, 7, false}, {6, 7, false}, {0, 0, false}, {0, 1, false}, {8, 8, false}, {-1, 3, false}, {9, 7, false}} {
		if g.Is(c.a, c.c) != c.want {
			t.Errorf("Is(%d, %d)", c.a, c.c)
		}
	}
}

func TestBasesAndOnly(t *testing.T) {
	g := fork()
	for _, c := range []struct {
		a, b        int
		bases, only []int
	}{
		{2, 3, []int{1}, []int{2}}, {4, 5, []int{2, 3}, []int{4}}, {7, 5, []int{2, 3}, []int{4, 7}}, {7, 4, []int{4}, []int{7}}, {4, 7, []int{4}, nil}, {3, 3, []int{3}, nil}, {6, 7, nil, []int{6}},
		{0, 7, nil, nil}, {7, 0, nil, []int{1, 2, 3, 4, 7}}, {9, 9, nil, nil},
	} {
		if got := g.Bases(c.a, c.b); !slices.Equal(got, c.bases) {
			t.Errorf("Bases(%d, %d): %v", c.a, c.b, got)
		}
		want := 0
		if len(c.bases) > 0 {
			want = slices.Max(c.bases)
		}
		if got := g.Base(c.a, c.b); got != want {
			t.Errorf("Base(%d, %d): %d", c.a, c.b, got)
		}
		if got := g.Only(c.a, c.b); !slices.Equal(got, c.only) {
			t.Errorf("Only(%d, %d): %v", c.a, c.b, got)
		}
	}
}

func TestBasesAreThoseOfTheChapter(t *testing.T) {
	r := rand.New(rand.NewSource(4))
	for range 300 {
		var g graph.Graph
		for i := range 1 + r.Intn(12) {
			var l []int
			for range min(r.Intn(3), i) {
				if p := 1 + r.Intn(i); !slices.Contains(l, p) {
					l = append(l, p)
				}
			}
			g = append(g, l)
		}
		a, b := 1+r.Intn(len(g)), 1+r.Intn(len(g))
		var common, want []int
		for c := range len(g) + 1 {
			if g.Is(c, a) && g.Is(c, b) {
				common = append(common, c)
			}
		}
		for _, c := range common {
			if !slices.ContainsFunc(common, func(d int) bool { return d != c && g.Is(c, d) }) {
				want = append(want, c)
			}
		}
		if got := g.Bases(a, b); !slices.Equal(got, want) {
			t.Fatalf("%v: Bases(%d, %d): %v, want %v", g, a, b, got, want)
		}
	}
}

func TestAnyGraphEnds(t *testing.T) {
	g := graph.Graph{{2, 9, -1, 0}, {1, 2, 2}, {3}}
	g.Ancestors(1, 3)
	g.Bases(1, 2)
	g.Base(3, 3)
	g.Only(1, 3)
	g.Is(1, 2)
}
