package expr_test

import (
	"strings"
	"testing"

	"eddy/expr"
)

func TestCanonOfTheChapter(t *testing.T) {
	for _, c := range [][2]string{
		{"( 1+ 2 )+03", "1+2+3"}, {"1+(2+3)", "1+(2+3)"}, {"(if val then 1 else 2)+1", "(if val then1else2)+1"}, {"if (val) then 1 else 2", "if val then1else2"}, {"not (key)", "not key"}, {"not (1 or 2)", "not(1or2)"}, {`val>3 and "a"==key`, `val>3and"a"==key`},
		{"((val)) - (1 - 2) - (3)", "val-(1-2)-3"}, {"not not(1 == 2)", "not not1==2"},
	} {
		wantCanon(t, "P3.5", c[0], c[1])
	}
}

func TestCanonHasBlanksBetweenWordsAlone(t *testing.T) {
	for _, c := range [][2]string{
		{"  key  ", "key"}, {"key and val", "key and val"}, {"key   or   val", "key or val"}, {"not key", "not key"}, {"not not key", "not not key"}, {"1 and 2", "1and2"}, {"key and 2", "key and2"}, {"1 and key", "1and key"}, {`"a" and key`, `"a"and key`}, {`key and "a"`, `key and"a"`},
		{"not 1", "not1"}, {`not "a"`, `not"a"`}, {"not - 1", "not-1"}, {"not [ ]", "not[]"}, {"not len ( 1 )", "not len(1)"}, {"not none", "not none"}, {"not hops", "not hops"}, {"- key", "-key"}, {"key - - val", "key--val"}, {"[ key , val ]", "[key,val]"},
		{"if key then val else acc", "if key then val else acc"}, {"if 1 then 2 else 3", "if1then2else3"}, {"if [ ] then [ 1 ] else ( 2 )", "if[]then[1]else2"}, {"if not key then - val else len ( acc )", "if not key then-val else len(acc)"},
		{"if if key then val else acc then 1 else if 2 then 3 else 4", "if if key then val else acc then1else if2then3else4"}, {"not(key)and(not(val))", "not key and not val"}, {"[1]and[2]", "[1]and[2]"}, {"key<val", "key<val"}, {"key <= - val", "key<=-val"}, {"1 != 2", "1!=2"}, {"len(1)and len(2)", "len(1)and len(2)"},
		{"put ( key , 0 , val )", "put(key,0,val)"}, {"(key)and(val)", "key and val"}, {"if(key)then(val)else(acc)", "if key then val else acc"},
	} {
		wantCanon(t, "P3.5", c[0], c[1])
	}
}

func TestCanonOfNumbersAndTexts(t *testing.T) {
	for _, c := range [][2]string{
		{"0", "0"}, {"000", "0"}, {"007", "7"}, {"70", "70"}, {"0009223372036854775807", "9223372036854775807"}, {strings.Repeat("0", 100), "0"}, {"01 + 002", "1+2"},
		{`""`, `""`}, {`" a "`, `" a "`}, {`"\x41"`, `"A"`}, {`"\x22"`, `"\""`}, {`"\x5c"`, `"\\"`}, {`"\x5C"`, `"\\"`}, {`"\x0a\x0A\n"`, `"\n\n\n"`}, {`"\x09\t"`, `"\t\t"`}, {`"\x20\x7e\x7f\x1f"`, `" ~\x7f\x1f"`}, {`"\x00\x0d"`, `"\x00\x0d"`},
		{`"\xff\xFF\xaB"`, `"\xff\xff\xab"`}, {`"\xc3\xa9"`, `"\xc3\xa9"`}, {`"\xe2\x82\xac"`, `"\xe2\x82\xac"`}, {`"\xef\xbf\xbd"`, `"\xef\xbf\xbd"`}, {`"\xc2\x80"`, `"\xc2\x80"`}, {`"\xf0\x9f\x98\x80"`, `"\xf0\x9f\x98\x80"`}, {`"\\x41"`, `"\\x41"`}, {`"it's"`, `"it's"`},
	} {
		wantCanon(t, "P3.5", c[0], c[1])
	}
	for c := range 256 {
		hex := `"\x` + string("0123456789abcdef"[c>>4]) + string("0123456789abcdef"[c&15]) + `"`
		wantCanon(t, "P3.5", hex, quoted(string([]byte{byte(c)})))
	}
}

func TestCanonKeepsBracketsThatAreNeeded(t *testing.T) {
	for _, s := range []string{
		"1or(2or3)", "1and(2and3)", "(1or2)and3", "1and(2or3)", "not(1or2)", "not(1and2)", "(not1)==2", "1==(not2)", "-(not1)", "(not1)+2", "1*(not2)",
		"(1==2)==3", "1==(2==3)", "(1<2)+3", "1+(2<3)", "-(1<2)", "(1<2)<(3<4)", "(1and2)==3", "1==(2or3)",
		"1+(2+3)", "1+(2-3)", "1-(2+3)", "1-(2-3)", "1*(2*3)", "1/(2/3)", "1%(2%3)", "1*(2/3)", "(1+2)*3", "1*(2+3)", "1/(2-3)", "-(1+2)", "-(1*2)", "-(1%2)", "1*(-2*3)",
		"(if1then2else3)or4", "1or(if1then2else3)", "(if1then2else3)and4", "1and(if1then2else3)", "not(if1then2else3)", "(if1then2else3)==4", "1==(if1then2else3)", "(if1then2else3)+4", "1+(if1then2else3)", "(if1then2else3)*4", "1*(if1then2else3)", "-(if1then2else3)",
		"(1or2)==(3or4)", "-(-1+2)", "not(not1or2)", "-(1+2)*3",
	} {
		wantCanon(t, "P3.5", s, s)
	}
}

func TestCanonDropsBracketsThatAreNotNeeded(t *testing.T) {
	for _, c := range [][2]string{
		{"(1or2)or3", "1or2or3"}, {"(1and2)and3", "1and2and3"}, {"(1and2)or3", "1and2or3"}, {"1or(2and3)", "1or2and3"}, {"1or(not2)", "1or not2"}, {"(not1)or2", "not1or2"}, {"1and(not2)", "1and not2"}, {"(not1)and2", "not1and2"}, {"not(not1)", "not not1"}, {"not(1==2)", "not1==2"}, {"not(-1)", "not-1"}, {"not(1+2)", "not1+2"}, {"(1==2)and(3==4)", "1==2and3==4"}, {"(1==2)or(3==4)", "1==2or3==4"},
		{"(1+2)==(3+4)", "1+2==3+4"}, {"(1*2)<(-3)", "1*2<-3"}, {"(1+2)+3", "1+2+3"}, {"(1-2)+3", "1-2+3"}, {"(1+2)-3", "1+2-3"}, {"(1*2)+3", "1*2+3"}, {"1+(2*3)", "1+2*3"}, {"1-(2/3)", "1-2/3"}, {"1+(-2)", "1+-2"}, {"1-(-2)", "1--2"}, {"(-1)-2", "-1-2"}, {"(1*2)*3", "1*2*3"}, {"(1/2)*3", "1/2*3"}, {"(1%2)/3", "1%2/3"}, {"1*(-2)", "1*-2"}, {"(-1)*2", "-1*2"}, {"-(-1)", "--1"}, {"-(1)", "-1"}, {"-(key)", "-key"}, {"-([])", "-[]"}, {"-(len(1))", "-len(1)"},
		{"((((1))))", "1"}, {"(((key)))", "key"}, {"(none)", "none"}, {`("a")`, `"a"`}, {"([])", "[]"}, {"(len((1)))", "len(1)"}, {"[(1),(2or3)]", "[1,2or3]"}, {"[(if1then2else3)]", "[if1then2else3]"}, {"put((1or2),(not3),(if1then2else3))", "put(1or2,not3,if1then2else3)"},
		{"(if1then2else3)", "if1then2else3"}, {"if(1or2)then(3or4)else(5or6)", "if1or2then3or4else5or6"}, {"if(if1then2else3)then(if4then5else6)else(if7then8else9)", "if if1then2else3then if4then5else6else if7then8else9"}, {"if(not1)then(-2)else(3==4)", "if not1then-2else3==4"},
		{"(1+2)*(3)", "(1+2)*3"}, {"((1+2))*3", "(1+2)*3"}, {"(((1+2)*3))", "(1+2)*3"},
	} {
		wantCanon(t, "P3.5", c[0], c[1])
	}
}

// pairs gives the places, among pieces, of the brackets around an expr: not those of a call.
func pairs(pieces []string) [][2]int {
	var all [][2]int
	var open []int
	for k, p := range pieces {
		switch p {
		case "(":
			open = append(open, k)
		case ")":
			from := open[len(open)-1]
			open = open[:len(open)-1]
			if from == 0 || sidesOf[pieces[from-1]] == 0 {
				all = append(all, [2]int{from, k})
			}
		}
	}
	return all
}

// wantShortest tells where a text has something that it doesn't need.
func wantShortest(t *testing.T, s string) {
	t.Helper()
	pieces := cut(s)
	tight := ""
	for k, p := range pieces {
		if k > 0 && wordForm.MatchString(pieces[k-1]) && wordForm.MatchString(p) {
			tight += " "
		}
		tight += p
	}
	if s != tight {
		t.Errorf("P3.5: Canon writes %q, with other blanks than %q", s, tight)
	}
	for _, pair := range pairs(pieces) {
		bare := append([]string{}, pieces...)
		bare[pair[0]], bare[pair[1]] = "", ""
		without := strings.Join(bare, " ")
		if _, e := firstFault(without); e == 0 && treeOf(without).loud() == treeOf(s).loud() {
			t.Errorf("P3.5: Canon writes %q, and %q is read as the same tree", s, without)
		}
	}
}

func TestCanonOfTreesByChance(t *testing.T) {
	c := chanceFrom(3)
	seen := 0
	for range 15000 {
		tree := c.tree(c.Intn(9))
		loud := tree.loud()
		if _, e := firstFault(loud); e != 0 {
			continue
		}
		seen++
		canon, err := expr.Canon(loud)
		if err != nil {
			t.Fatalf("P3.4: Canon(%q) answers %v", loud, err)
		}
		if _, e := firstFault(canon); e != 0 || len(canon) > len(loud) {
			t.Fatalf("P3.6: Canon(%q) answers %q: it has a fault, or is longer", loud, canon)
		}
		if treeOf(canon).loud() != loud {
			t.Fatalf("P3.5: Canon(%q) answers %q, which is another tree: %q", loud, canon, treeOf(canon).loud())
		}
		wantShortest(t, canon)
		for _, s := range []string{canon, c.dressed(loud), c.dressed(canon)} {
			if expr.Check(s) != nil {
				continue
			}
			if again, _ := expr.Canon(s); again != canon {
				t.Fatalf("P3.6: Canon(%q) answers %q, and Canon(%q), the same tree, %q", loud, canon, s, again)
			}
		}
	}
	if seen < 8000 {
		t.Errorf("only %d trees were looked at", seen)
	}
}

func TestCanonIsNotLongerAndHasNoFault(t *testing.T) {
	c := chanceFrom(4)
	full := []string{
		strings.Repeat("-", 99) + "1", strings.Repeat("1+", 49) + "1", strings.Repeat("(", 10) + "1" + strings.Repeat(")", 10), strings.Repeat("not ", 24) + "1", strings.Repeat("key or ", 13) + "key", "(((((((((1+2)*3)+4)*5)+6)*7)+8)*9)+1)*2",
		`"` + strings.Repeat(`\xff`, 24) + `"`, `"` + strings.Repeat(`\\`, 24) + `"`, "not(not(not(not(not(not(not(not(not(not(key))))))))))", "if(if(if(1)then(2)else(3))then(4)else(5))then(6)else(if(7)then(8)else(9))",
	}
	for k := range 3000 {
		s := full[k%len(full)]
		if k >= len(full) {
			s = c.dressed(s)
		}
		if _, e := firstFault(s); e != 0 {
			continue
		}
		canon, err := expr.Canon(s)
		if err != nil || len(canon) > len(s) || expr.Check(canon) != nil {
			t.Errorf("P3.6: Canon(%q) answers %q, %v: longer, or with a fault", s, canon, err)
		}
		if again, err := expr.Canon(canon); again != canon || err != nil {
			t.Errorf("P3.6: Canon(%q) answers %q, %v, and not itself", canon, again, err)
		}
	}
}
