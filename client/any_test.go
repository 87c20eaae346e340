package client_test

import (
	"math/rand"
	"testing"

	"recto/api"
	"recto/client"
	"recto/simfs"
	"recto/state"
)

// TestAnyEditBehindACut lets the user edit anything between a cut, cuts of Open, and the last Open.
func TestAnyEditBehindACut(t *testing.T) {
	r := rand.New(rand.NewSource(9))
	paths := []string{"a", "b", "d", "d/x", "u"}
	keep := func() []bool {
		var l []bool
		for range r.Intn(12) {
			l = append(l, r.Intn(2) == 0)
		}
		return l
	}
	for range 60 {
		f, c := start(t)
		for _, x := range day() {
			if play(f, x) {
				continue
			}
			ahead := stateOf(t, c)
			then, _ := would(ahead, x)
			f.Arm(1+r.Intn(20), keep()...)
			if c.Say(x); !f.Off() {
				f.Arm(1 << 30)
				continue
			}
			f.On()
			edits := map[string]string{}
			anyEdit(r, f, paths, edits)
			for {
				f.Arm(1+r.Intn(12), keep()...)
				d, err := client.Open(f)
				if err == nil {
					c = d
					break
				}
				wants(t, "Open", err, "client 4: down")
				f.On()
				anyEdit(r, f, paths, edits)
			}
			f.Arm(1 << 30)
			checkEdited(t, x, stateOf(t, c), ahead, then, edits)
		}
	}
}

const none = "\x00"

// anyEdit edits or takes away some file; edits tells what it is to be then.
func anyEdit(r *rand.Rand, f *simfs.FS, paths []string, edits map[string]string) {
	p := paths[r.Intn(len(paths))]
	if r.Intn(3) == 0 {
		if _, err := f.Stat(p); err == api.OK {
			f.Unlink(p)
			edits[p] = none
		}
		return
	}
	data := []string{"1\n", "2\n", "z\n", "mine"}[r.Intn(4)]
	if f.Edit(p, api.Plain, []byte(data)) == api.OK {
		edits[p] = data
	}
}

func checkEdited(t *testing.T, x string, now, ahead, then state.State, edits map[string]string) {
	t.Helper()
	got := now.Work
	for p, data := range edits {
		g, there := got.Get(p)
		if p != "d" && p != "d/x" && (there != (data != none) || there && g.Data != data) {
			t.Fatalf("%q: %s is not as edited to %q: %v", x, p, data, got)
		}
	}
	for _, s := range []*state.State{&now, &ahead, &then} {
		for _, p := range []string{"a", "b", "d", "d/x", "u"} {
			if _, edited := edits[p]; edited || edits["d"] != "" && p == "d/x" || edits["d/x"] != "" && p == "d" {
				s.Work = s.Work.Cut(p)
			}
		}
	}
	if !state.Same(now, ahead) && !state.Same(now, then) {
		t.Fatalf("%q: neither as ahead nor as behind:\n%s\nahead\n%s\nbehind\n%s", x, state.Text(now), state.Text(ahead), state.Text(then))
	}
}
