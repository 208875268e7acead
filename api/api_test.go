package api

import "testing"

func TestNumbersAreTheDocuments(t *testing.T) {
	errs := []Errno{OK, ErrLease, ErrTenant, ErrWindow, ErrNode, ErrDown, ErrUp, ErrLink, ErrTime, ErrCost, ErrText}
	for i, e := range errs {
		if int(e) != i {
			t.Errorf("error %d of the document is %d", i, e)
		}
	}
	verdicts := []int{Lost, Granted, Refused, Joined, Elsewhere, Admit, Deny, Busy}
	for i, v := range verdicts {
		if v != i {
			t.Errorf("verdict %d of the document is %d", i, v)
		}
	}
	for i, m := range []int{Up, Half, Down} {
		if m != i {
			t.Errorf("mode %d of the document is %d", i, m)
		}
	}
	limits := [][2]int{{MaxLease, 1000}, {MaxTenants, 4}, {MaxRate, 1000}, {MaxBurst, 1000000}, {MaxCost, 2000000}, {MaxTime, 1000000000000}}
	for _, l := range limits {
		if l[0] != l[1] {
			t.Errorf("limit is %d, want %d", l[0], l[1])
		}
	}
	if Arbiter != 2 {
		t.Errorf("the witness is %d, want 2", Arbiter)
	}
}
