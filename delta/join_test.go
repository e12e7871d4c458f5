package delta_test

import (
	"slices"
	"testing"

	"eddy/api"
)

func TestJoin(t *testing.T) {
	for _, x := range []struct{ d, e, want string }{
		{"1; a:[1]; -b", "2; b:[5]; -a", "2; b:[5]; -a"},
		{"1", "2", "2"},
		{"2", "0", "0"},
		{"1; a:[1]; -b", "2", "2; a:[1]; -b"},
		{"1", "2; a:[1]; -b", "2; a:[1]; -b"},
		{"1; a:[1]", "1; a:[2]", "1; a:[2]"},
		{"1; a:[1]", "1; a:[]", "1; a:[]"},
		{"1; a:[1]", "1; a:[1]", "1; a:[1]"},
		{"1; a:[1]", "1; -a", "1; -a"},
		{"1; -a", "1; a:[1]", "1; a:[1]"},
		{"1; a:[1]", "1; b:[2]", "1; a:[1]; b:[2]"},
		{"1; b:[1]", "1; a:[2]", "1; a:[2]; b:[1]"},
		{"1; -a", "1; -b", "1; -a; -b"},
		{"1; -b", "1; -a", "1; -a; -b"},
		{"1; a:[1]; c:[1]; e:[1]", "1; b:[2]; d:[2]", "1; a:[1]; b:[2]; c:[1]; d:[2]; e:[1]"},
		{"1; -a; -c; -e", "1; -b; -d", "1; -a; -b; -c; -d; -e"},
		{"1; a:[1]; c:[1]; -b; -d", "9; b:[2]; e:[2]; -a; -f", "9; b:[2]; c:[1]; e:[2]; -a; -d; -f"},
		{"1; a:[1]; b:[1]; c:[1]; -d; -e; -f", "9; a:[2]; d:[2]; -b; -g", "9; a:[2]; c:[1]; d:[2]; -b; -e; -f; -g"},
		{"1; :[1]; -a", "2; a:[1]; -", "2; a:[1]; -"},
		{"1; -", "2; :[]", "2; :[]"},
		{"1; \x7f:[]; -\xff", "2; \x80:[]; -\x7f", "2; \x80:[]; -\x7f; -\xff"},
	} {
		joinOf(changes(x.d), changes(x.e)).gives(t, "P11.4", changes(x.want))
	}
}

func TestAKeyThatGoesTwice(t *testing.T) {
	for _, x := range []struct{ d, e string }{
		{"1; -a", "2; -a"},
		{"1; -", "2; -"},
		{"1; -a; -b; -c", "2; x:[]; -c; -d"},
		{"1; -a; -b; -c", "2; -; -b"},
		{"1; x:[]; -a", "2; x:[]; y:[]; -a; -b"},
	} {
		joinOf(changes(x.d), changes(x.e)).refuses(t, "P11.4", api.ErrDeltaGone)
	}
}

// TestHowManyEntriesThereMayBe: 64 cells and 64 keys, each alone and together; one more is refused, with the empty delta.
func TestHowManyEntriesThereMayBe(t *testing.T) {
	low, high := counted(100, 64), counted(200, 64)
	set := api.Delta{Num: 5, Set: celled(low, num(1))}
	gone := api.Delta{Num: 5, Gone: low}
	one := func(key string) api.Delta { return api.Delta{Num: 6, Set: celled([]string{key})} }
	less := func(key string) api.Delta { return api.Delta{Num: 6, Gone: []string{key}} }
	for _, key := range []string{"a", "k100x", "z"} {
		joinOf(set, one(key)).refuses(t, "P11.4", api.ErrDeltaCells)
		joinOf(one(key), set).refuses(t, "P11.4", api.ErrDeltaCells)
		joinOf(gone, less(key)).refuses(t, "P11.4", api.ErrDeltaCells)
		joinOf(less(key), gone).refuses(t, "P11.4", api.ErrDeltaCells)
	}
	joinOf(set, one("k100")).gives(t, "P11.4", api.Delta{Num: 6, Set: slices.Concat(celled(low[:1]), set.Set[1:])})
	joinOf(set, less("z")).gives(t, "P11.4", api.Delta{Num: 6, Set: set.Set, Gone: []string{"z"}})
	joinOf(gone, one("z")).gives(t, "P11.4", api.Delta{Num: 6, Set: celled([]string{"z"}), Gone: low})
	joinOf(set, api.Delta{Gone: high}).gives(t, "P11.4", api.Delta{Set: set.Set, Gone: high})
	joinOf(api.Delta{Num: 5, Set: celled(low[:63])}, one("z")).gives(t, "P11.4", api.Delta{Num: 6, Set: celled(append(counted(100, 63), "z"))})
	joinOf(api.Delta{Num: 5, Gone: low[:63]}, less("z")).gives(t, "P11.4", api.Delta{Num: 6, Gone: append(counted(100, 63), "z")})
	// What e takes out of d's Set makes room there, and what e sets makes room in d's Gone.
	joinOf(set, api.Delta{Num: 6, Set: celled([]string{"z"}), Gone: low[:1]}).gives(t, "P11.4", api.Delta{Num: 6, Set: slices.Concat(set.Set[1:], celled([]string{"z"})), Gone: low[:1]})
	joinOf(gone, api.Delta{Num: 6, Set: celled(low[:1]), Gone: []string{"z"}}).gives(t, "P11.4", api.Delta{Num: 6, Set: celled(low[:1]), Gone: append(counted(101, 63), "z")})
	joinOf(api.Delta{Set: celled(high), Gone: low}, api.Delta{Num: 6, Gone: high[:1]}).refuses(t, "P11.4", api.ErrDeltaCells)
	joinOf(set, api.Delta{Set: celled(high)}).refuses(t, "P11.4", api.ErrDeltaCells)
	joinOf(gone, api.Delta{Gone: high}).refuses(t, "P11.4", api.ErrDeltaCells)
	joinOf(api.Delta{Set: celled(low), Gone: high}, api.Delta{Set: celled(high, num(3)), Gone: low}).gives(t, "P11.4", api.Delta{Set: celled(high, num(3)), Gone: low})
}

// TestErrorsOfJoinInTheirOrder: each comes ahead of all that are behind it.
func TestErrorsOfJoinInTheirOrder(t *testing.T) {
	right := changes("3; s:[1]; -q")
	full := api.Delta{Num: 4, Set: celled(counted(0, 64)), Gone: []string{"x"}}
	many := api.Delta{Num: 5, Set: celled([]string{"z"}), Gone: []string{"x"}}
	for want, d := range unfit() {
		joinOf(d, right).refuses(t, "P11.4", want)
		joinOf(right, d).refuses(t, "P11.4", want)
		for _, e := range unfit() {
			joinOf(d, e).refuses(t, "P11.4", want)
		}
	}
	for _, w := range wrongStates() {
		joinOf(asDelta(w.state, "x"), many).refuses(t, "P11.4", w.err)
		joinOf(full, asDelta(w.state, "x")).refuses(t, "P11.4", w.err)
	}
	// A key that goes twice, too many entries, and what isn't fit, together.
	joinOf(full, api.Delta{Set: many.Set, Gone: []string{"x", "x"}}).refuses(t, "P11.4", api.ErrDeltaForm)
	joinOf(full, many).refuses(t, "P11.4", api.ErrDeltaGone)
	joinOf(full, api.Delta{Num: 5, Set: many.Set}).refuses(t, "P11.4", api.ErrDeltaCells)
	gone := api.Delta{Num: 4, Gone: counted(0, 64)}
	joinOf(gone, api.Delta{Num: 5, Gone: []string{"k000", "z"}}).refuses(t, "P11.4", api.ErrDeltaGone)
	joinOf(gone, api.Delta{Num: 5, Gone: []string{"z"}}).refuses(t, "P11.4", api.ErrDeltaCells)
}
