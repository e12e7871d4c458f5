package pen_test

import (
	"fmt"
	"reflect"
	"testing"

	"eddy/api"
	"eddy/pen"
	"eddy/value"
)

// TestWild: what isn't valid is drawn as well as what is, no thing twice, and the same ones for the same seed.
func TestWild(t *testing.T) {
	met := map[bool]int{}
	for seed := range 50 {
		w, same := pen.SeededWild(seed), pen.SeededWild(seed)
		seen := map[string]bool{}
		for n := range 40 {
			r, s, p := w.Record(), w.State(), w.Part(3)
			if !reflect.DeepEqual(r, same.Record()) || !reflect.DeepEqual(s, same.State()) || !reflect.DeepEqual(p, same.Part(3)) {
				t.Fatalf("seed %d draws two things", seed)
			}
			for _, told := range []string{fmt.Sprint("record", r.Key), fmt.Sprint("state", s), fmt.Sprint("part", p)} {
				if seen[told] {
					t.Fatalf("seed %d: draw %d: %s is drawn twice", seed, n, told)
				}
				seen[told] = true
			}
			met[value.CheckRecord(r) == api.OK]++
			if len(p.Logs) > 3 || len(p.Pend) > 2 || len(w.Records(n%4)) > n%4 || len(same.Records(n%4)) > n%4 {
				t.Fatalf("seed %d: more is drawn than was asked for: %+v", seed, p)
			}
		}
	}
	if met[true] < 200 || met[false] < 200 {
		t.Errorf("valid records: %v", met)
	}
}

func TestDeep(t *testing.T) {
	for lists := range 5 {
		v, count := pen.Deep(lists), 0
		for ; v.Kind == api.List && len(v.Items) == 1; v = v.Items[0] {
			count++
		}
		if count != lists || v.Kind != api.Int || len(v.Items) > 0 {
			t.Errorf("of %d lists there are %d, around %+v", lists, count, v)
		}
	}
}
