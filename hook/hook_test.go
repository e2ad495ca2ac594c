package hook_test

import (
	"testing"

	"narthex/hook"
)

// P18.1: the document's example.
func TestExample(t *testing.T) {
	if a, b := hook.Words("a"); a != 97<<56+1<<48 || b != 0 {
		t.Error(a, b)
	}
}

// P18.1: the hooks and the helpers have the document's numbers.
func TestNumbers(t *testing.T) {
	for i, n := range []int{hook.LookupAsk, hook.LookupTold, hook.GetattrAsk, hook.GetattrTold, hook.ReadAsk, hook.ReadTold, hook.ChangeTold, hook.Permission} {
		if n != i+1 {
			t.Errorf("hook %d has number %d", i+1, n)
		}
	}
	for i, n := range []int{hook.Find, hook.Count, hook.Put, hook.Drop} {
		if n != i+1 {
			t.Errorf("helper %d has number %d", i+1, n)
		}
	}
}

// P18.1: each hook's fields are so many as the chapter names, and none of what is no hook; 2, 4, 6 and 7 are told.
func TestHooks(t *testing.T) {
	for _, n := range farInts {
		want, known := hooks[n]
		if got := hook.Known(n); got != known {
			t.Errorf("Known(%d): %v", n, got)
		}
		if got := hook.Inputs(n); got != items(want.inputs) {
			t.Errorf("Inputs(%d): %d, not %d", n, got, items(want.inputs))
		}
		if got := hook.Outputs(n); got != items(want.outputs) {
			t.Errorf("Outputs(%d): %d, not %d", n, got, items(want.outputs))
		}
		if got := hook.IsTold(n); got != want.told {
			t.Errorf("IsTold(%d): %v", n, got)
		}
	}
}

// P18.1: the same, written out once more by the names of the hooks.
func TestHooksByName(t *testing.T) {
	for _, h := range []struct {
		hook, inputs, outputs int
		told                  bool
	}{
		{hook.LookupAsk, 4, 6, false},
		{hook.LookupTold, 10, 0, true},
		{hook.GetattrAsk, 1, 5, false},
		{hook.GetattrTold, 7, 0, true},
		{hook.ReadAsk, 3, 3, false},
		{hook.ReadTold, 7, 0, true},
		{hook.ChangeTold, 6, 0, true},
		{hook.Permission, 5, 0, false},
	} {
		if !hook.Known(h.hook) || hook.Inputs(h.hook) != h.inputs || hook.Outputs(h.hook) != h.outputs || hook.IsTold(h.hook) != h.told {
			t.Errorf("hook %d: %v, %d, %d, %v", h.hook, hook.Known(h.hook), hook.Inputs(h.hook), hook.Outputs(h.hook), hook.IsTold(h.hook))
		}
	}
}

// P18.1: a helper takes 2, 1, 4 or 2 arguments; hooks that ask may call the first two alone; what is no hook or no helper may nothing.
func TestArgs(t *testing.T) {
	for _, h := range farInts {
		for _, helper := range farInts {
			n, ok := hook.Args(h, helper)
			want, may := args(h, helper)
			if n != want || ok != may {
				t.Errorf("Args(%d, %d): %d, %v, not %d, %v", h, helper, n, ok, want, may)
			}
		}
	}
}

// P18.1: the same, written out once more: each hook's answers to Find, Count, Put and Drop, none as -1.
func TestArgsByName(t *testing.T) {
	asks, told := [4]int{2, 1, -1, -1}, [4]int{2, 1, 4, 2}
	for i, want := range [][4]int{asks, told, asks, told, asks, told, told, asks} {
		for k, helper := range []int{hook.Find, hook.Count, hook.Put, hook.Drop} {
			n, ok := hook.Args(i+1, helper)
			if ok != (want[k] >= 0) || n != max(want[k], 0) {
				t.Errorf("Args(%d, %d): %d, %v", i+1, helper, n, ok)
			}
		}
	}
}
