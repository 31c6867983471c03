package watch_test

import (
	"strings"
	"testing"

	"firetower/api"
	"firetower/watch"
)

// reads fails a test if a source, read as a watch or as a condition, has another error than it should have.
func reads(t *testing.T, source, start string, want api.Errno, at int) {
	t.Helper()
	if start == "COND" {
		c, e, i := watch.ParseCond(source)
		if e != want || i != at || e != api.OK && !sameCond(c, api.Cond{}) {
			t.Errorf("%q: %v %v %v instead of %v %v", source, c, e, i, want, at)
		}
		return
	}
	w, e, i := watch.Parse(source)
	if e != want || i != at || e != api.OK && !sameWatch(w, api.Watch{}) {
		t.Errorf("%q: %v %v %v instead of %v %v", source, w, e, i, want, at)
	}
}

func TestP8_1Values(t *testing.T) {
	w := parsed(t, "order x rank 100 if cell = 0 and seen != 1 or age < 2; swap a b from 1 to 9 every 3 except 4, 7;\n\trest c on 5;# night\ncancel d from 6 to 8;watch t1 by p2 on 0 except 0,400;order y if hour<=3 and free>10000;")
	want := api.Watch{
		Lines: []api.Line{
			{Kind: api.LiSwap, Person: "a", Other: "b", From: 1, To: 9, Every: 3, Except: []int{4, 7}},
			{Kind: api.LiRest, Person: "c", From: 5, To: 5, Every: 1},
			{Kind: api.LiCancel, Tower: "d", From: 6, To: 8, Every: 1},
			{Kind: api.LiWatch, Tower: "t1", Person: "p2", Every: 1, Except: []int{0, 400}},
		},
		Orders: []api.Order{{Name: "x", Rank: 100, When: both(api.CoOr, both(api.CoAnd, is(api.FaCell, api.OpEqual, 0), is(api.FaSeen, api.OpOther, 1)), is(api.FaAge, api.OpLess, 2))}},
	}
	want.Orders = append(want.Orders, api.Order{Name: "y", When: both(api.CoAnd, is(api.FaHour, api.OpMost, 3), is(api.FaFree, api.OpMore, 10000))})
	if !sameWatch(w, want) {
		t.Error(w, "instead of", want)
	}
}

func TestP8_1Conditions(t *testing.T) {
	a, b, c := is(api.FaCell, api.OpEqual, 1), is(api.FaSeen, api.OpMore, 2), is(api.FaAge, api.OpLeast, 3)
	for _, x := range []struct {
		source, text string
		want         api.Cond
	}{
		{"cell=1", "cell = 1", a},
		{"((cell = 1))", "cell = 1", a},
		{"cell = 1 or seen > 2 or age >= 3", "cell = 1 or seen > 2 or age >= 3", both(api.CoOr, both(api.CoOr, a, b), c)},
		{"cell = 1 or (seen > 2 or age >= 3)", "cell = 1 or (seen > 2 or age >= 3)", both(api.CoOr, a, both(api.CoOr, b, c))},
		{"cell = 1 and seen > 2 and age >= 3", "cell = 1 and seen > 2 and age >= 3", both(api.CoAnd, both(api.CoAnd, a, b), c)},
		{"cell = 1 and (seen > 2 and age >= 3)", "cell = 1 and (seen > 2 and age >= 3)", both(api.CoAnd, a, both(api.CoAnd, b, c))},
		{"cell = 1 or seen > 2 and age >= 3", "cell = 1 or seen > 2 and age >= 3", both(api.CoOr, a, both(api.CoAnd, b, c))},
		{"cell = 1 or (seen > 2 and age >= 3)", "cell = 1 or seen > 2 and age >= 3", both(api.CoOr, a, both(api.CoAnd, b, c))},
		{"(cell = 1 or seen > 2) and age >= 3", "(cell = 1 or seen > 2) and age >= 3", both(api.CoAnd, both(api.CoOr, a, b), c)},
		{"not cell = 1 and seen > 2", "not cell = 1 and seen > 2", both(api.CoAnd, not(a), b)},
		{"not (cell = 1 and seen > 2)", "not (cell = 1 and seen > 2)", not(both(api.CoAnd, a, b))},
		{"not(cell=1 or\tseen>2)", "not (cell = 1 or seen > 2)", not(both(api.CoOr, a, b))},
		{"not not (cell = 1)", "not not cell = 1", not(not(a))},
		{"seen > 2 and not not (cell = 1)", "seen > 2 and not not cell = 1", both(api.CoAnd, b, not(not(a)))},
		{"free <= 0 # and more", "free <= 0", is(api.FaFree, api.OpMost, 0)},
		{"hour < 10000", "hour < 10000", is(api.FaHour, api.OpLess, 10000)},
		{"age != 10", "age != 10", is(api.FaAge, api.OpOther, 10)},
	} {
		if got := cond(t, x.source); !sameCond(got, x.want) {
			t.Error(x, got)
		}
		if got, e := watch.PrintCond(x.want); got != x.text || e != api.OK {
			t.Error(x, got, e)
		}
	}
}

func TestP8_1Texts(t *testing.T) {
	for _, x := range [][2]string{
		{"", ""},
		{" \t\n# nothing", ""},
		{example, example},
		{"rest a from 3 to 3;", "rest a on 3;\n"},
		{"rest a from 3 to 3 every 1 except 3;", "rest a on 3 except 3;\n"},
		{"rest a from 3 to 3 every 2;", "rest a from 3 to 3 every 2;\n"},
		{"rest a from 0 to 400 every 400 except 0,9,400;", "rest a from 0 to 400 every 400 except 0, 9, 400;\n"},
		{"order b rank 0 if cell = 1; cancel a on 2; order a rank 1 if free = 1; swap b a on 1;", "cancel a on 2;\nswap b a on 1;\norder b if cell = 1;\norder a rank 1 if free = 1;\n"},
		{"watch " + strings.Repeat("w", 24) + " by by0 on 1;", "watch " + strings.Repeat("w", 24) + " by by0 on 1;\n"},
	} {
		if got, e := watch.Print(parsed(t, x[0])); got != x[1] || e != api.OK {
			t.Errorf("%q: %q %v", x, got, e)
		}
	}
}

func TestP8_1ErrorsOfTokens(t *testing.T) {
	for _, x := range []struct {
		source string
		at     int
	}{
		{"rest a on 3; !", 13}, {"rest a on 3; ! =", 13}, {"rest a on 3\r;", 11}, {"rest A on 3;", 5}, {"rest aB on 3;", 6}, {"rest a_b on 3;", 6}, {"rest \x00 on 3;", 5}, {"rest \xc3\xa4 on 3;", 5},
		{"rest " + strings.Repeat("a", 25) + " on 3;", 5}, {"rest " + strings.Repeat("a", 25) + "B on 3;", 5}, {"rest a" + strings.Repeat("0", 24) + " on 3;", 5},
		{"rest a on 03;", 11}, {"rest a on 00;", 11}, {"rest a on 10001;", 10}, {"rest a on 10001x;", 10}, {"rest a on 100000000000000000000000000;", 10}, {"rest a on 18446744073709551617;", 10},
		{"rest a on 3x;", 11}, {"rest a on 3X;", 11}, {"rest a on 0x1;", 11}, {"rest a on 10000a;", 15}, {"rest a on 3except 3;", 11}, {"order x if not(cell=1or seen>2);", 21}, {"rest a on -3;", 10}, {"rest a on 3.5;", 11},
		{"# !\n!", 4}, {"#", -1}, {"# !", -1}, {"# \xff\r", -1}, {"rest a on 3#;\n;", -1}, {"0 ! 1x", 2}, {"watch watch 3x", 13},
	} {
		if x.at < 0 {
			reads(t, x.source, "SOURCE", api.OK, 0)
		} else {
			reads(t, x.source, "SOURCE", api.ErrForm, x.at)
			reads(t, x.source, "COND", api.ErrForm, x.at)
		}
	}
	reads(t, "age = 3# \x00", "COND", api.OK, 0)
	reads(t, "age = 10000", "COND", api.OK, 0)
}

func TestP8_1ErrorsOfTheGrammar(t *testing.T) {
	for _, x := range []struct {
		source string
		at     int
	}{
		{"watch", 5}, {"watch ", 6}, {"watch # a", 9}, {"watch a by b on 3", 17}, {"watch a by b on 3 # ;\n", 22}, {"rest a on 3; rest", 17},
		{"north", 0}, {"3", 0}, {";", 0}, {"rest a on 3;;", 12}, {"if", 0}, {"watch by by b on 3;", 6}, {"watch a by on on 3;", 11}, {"watch a a on 3;", 8}, {"watch a by b to 3;", 13}, {"watch 3 by b on 3;", 6},
		{"rest free on 3;", 5}, {"rest a b on 3;", 7}, {"cancel a by b on 3;", 9}, {"swap a on 3;", 7}, {"swap a by b on 3;", 7}, {"swap a, b on 3;", 6},
		{"rest a;", 6}, {"rest a on;", 9}, {"rest a on b;", 10}, {"rest a on 3 4;", 12}, {"rest a on 3, 4;", 11}, {"rest a on 3 every 2;", 12}, {"rest a on 3 to 4;", 12}, {"rest a from 3;", 13}, {"rest a from 3 to;", 16}, {"rest a from 3 every 2 to 4;", 14},
		{"rest a from 3 to 4 every;", 24}, {"rest a from 3 to 4 except 3 every 2;", 28}, {"rest a on 3 except;", 18}, {"rest a on 3 except 3,;", 21}, {"rest a on 3 except 3 4;", 21}, {"rest a on 3 except , 3;", 19}, {"rest a on 3 except 3 except 4;", 21},
		{"order if cell = 3;", 6}, {"order x cell = 3;", 8}, {"order x rank if cell = 3;", 13}, {"order x rank 3 rank 3 if cell = 3;", 15}, {"order x if cell = 3 rank 3;", 20}, {"order x if;", 10}, {"order x if x = 3;", 11}, {"order x if cell 3;", 16}, {"order x if cell = free;", 18}, {"order x if cell == 3;", 17}, {"order x if cell =< 3;", 17}, {"order x if 3 = cell;", 11}, {"order x if cell < = 3;", 18},
		{"order x if cell = 3 cell = 4;", 20}, {"order x if cell = 3 and;", 23}, {"order x if cell = 3 and or cell = 3;", 24}, {"order x if or cell = 3;", 11}, {"order x if not;", 14}, {"order x if not and cell = 3;", 15}, {"order x if cell not = 3;", 16}, {"order x if cell = 3 not;", 20},
		{"order x if (cell = 3;", 20}, {"order x if (cell = 3", 20}, {"order x if (cell = 3));", 21}, {"order x if cell = 3);", 19}, {"order x if ();", 12}, {"order x if (cell) = 3;", 16}, {"order x if not (not) cell = 3;", 19},
	} {
		reads(t, x.source, "SOURCE", api.ErrForm, x.at)
		e, at := plainRead(x.source, "SOURCE")
		if e != api.ErrForm || at != x.at {
			t.Errorf("%q: %v %v by the grammar", x.source, e, at)
		}
		if inner, is := strings.CutPrefix(x.source, "order x if "); is && x.source[x.at:] != ";" {
			inner = strings.TrimSuffix(inner, ";")
			e, at := plainRead(inner, "COND")
			reads(t, inner, "COND", e, at)
		}
	}
	for _, x := range []struct {
		source string
		at     int
	}{{"", 0}, {"  ", 2}, {"# cell = 3", 10}, {"cell = 3;", 8}, {"cell = 3 # ;", -1}, {"cell", 4}, {"cell = 3 or", 11}, {"cell = 3)", 8}, {"rest a on 3;", 0}, {"order x if cell = 3;", 0}} {
		if x.at < 0 {
			reads(t, x.source, "COND", api.OK, 0)
		} else {
			reads(t, x.source, "COND", api.ErrForm, x.at)
		}
	}
}

// The errors of a source are those of its length, of its tokens, of the grammar, and of Check, in this order.
func TestP8_1OrderOfErrors(t *testing.T) {
	long := strings.Repeat(" ", 6000)
	nots := strings.Repeat("not ", 11)
	big := strings.Repeat("(cell = 1) and ", 8) + "cell = 1"
	for _, x := range []struct {
		source string
		e      api.Errno
		at     int
	}{
		{long, api.OK, 0}, {long + " ", api.ErrLimit, 0}, {long + "!", api.ErrLimit, 0}, {long[:5988] + "rest a on 3;", api.OK, 0}, {long[:5999] + "!", api.ErrForm, 5999}, {long[:5996] + "rest", api.ErrForm, 6000},
		{"rest rest on 401 !", api.ErrForm, 17}, {"rest a on 401 rest", api.ErrForm, 14}, {strings.Repeat("rest a on 3;", 61) + "!", api.ErrForm, 732}, {strings.Repeat("rest a on 3;", 61) + "rest", api.ErrForm, 736},
		{"rest a on 400;", api.OK, 0}, {"rest a on 401;", api.ErrForm, 0}, {"rest a from 3 to 2;", api.ErrForm, 0}, {"rest a from 1 to 401;", api.ErrForm, 0}, {"rest a from 1 to 3 every 0;", api.ErrForm, 0}, {"rest a from 1 to 3 every 401;", api.ErrForm, 0},
		{"rest a on 3 except 5, 5;", api.ErrForm, 0}, {"rest a on 3 except 6, 5;", api.ErrForm, 0}, {"rest a on 3 except 401;", api.ErrForm, 0}, {"rest a on 3 except 0, 400;", api.OK, 0}, {"swap a a on 1;", api.ErrForm, 0}, {"watch a by a on 1;", api.OK, 0},
		{"order x rank 101 if free = 1;", api.ErrForm, 0}, {"order x if " + nots + "cell = 1;", api.OK, 0}, {"order x if not " + nots + "cell = 1;", api.ErrForm, 0}, {"order x if " + big + ";", api.OK, 0}, {"order x if " + big + strings.Repeat(" and cell = 1", 4) + ";", api.ErrForm, 0},
		{strings.Repeat("rest a on 3;", 60), api.OK, 0}, {strings.Repeat("rest a on 3;", 61), api.ErrLimit, 0}, {strings.Repeat("order a if age = 1;", 30), api.OK, 0}, {strings.Repeat("order a if age = 1;", 31), api.ErrLimit, 0}, {"rest a on 401;" + strings.Repeat("order a if age = 1;", 31), api.ErrLimit, 0},
	} {
		reads(t, x.source, "SOURCE", x.e, x.at)
	}
	reads(t, long+" ", "COND", api.ErrLimit, 0)
	reads(t, long[:5992]+"cell = 1", "COND", api.OK, 0)
	reads(t, long[:5999]+"!", "COND", api.ErrForm, 5999)
	reads(t, nots+"cell = 1", "COND", api.OK, 0)
	reads(t, nots+"not cell = 1", "COND", api.ErrForm, 0)
	reads(t, nots+"not cell = 1 or", "COND", api.ErrForm, 59)
	reads(t, strings.Repeat("(", 2000)+"cell = 1"+strings.Repeat(")", 2000), "COND", api.OK, 0)
	reads(t, strings.Repeat("(", 6000), "COND", api.ErrForm, 6000)
	reads(t, strings.Repeat("not ", 1500), "COND", api.ErrForm, 6000)
}

// Sources that are damaged are held against all ways of the grammar.
func TestP8_1Damaged(t *testing.T) {
	r := random(1)
	seen := map[api.Errno]int{}
	for range 6000 {
		w := randomRoster(r, 3, 400)
		w.Orders = randomOrders(r, 2, 4, wide(r))
		source := damaged(r, looseText(r, w))
		want, at := plainRead(source, "SOURCE")
		got, e, i := watch.Parse(source)
		seen[e]++
		switch {
		case want != api.OK:
			reads(t, source, "SOURCE", want, at)
		case e == api.OK:
			mustBe(t, watch.Check(got), api.OK, source)
		case e != api.ErrForm || i != 0:
			t.Fatalf("%q: %v %v", source, e, i)
		}
		source = damaged(r, looseCond(r, randomCond(r, 4, wide(r))))
		if want, at = plainRead(source, "COND"); want != api.OK {
			reads(t, source, "COND", want, at)
		}
	}
	counted(t, "damaged sources that cannot be read", seen[api.ErrForm], 3000)
	counted(t, "damaged sources that can be read", seen[api.OK], 300)
}

func TestP8_1Bytes(t *testing.T) {
	r := random(2)
	const some = "ab09 \t\n#;,()=!<>Zn\x80"
	for range 20000 {
		var b []byte
		for range r.IntN(8) {
			b = append(b, some[r.IntN(len(some))])
		}
		e, at := plainRead(string(b), "SOURCE")
		reads(t, string(b), "SOURCE", e, at)
		if e, at = plainRead(string(b), "COND"); e != api.OK {
			reads(t, string(b), "COND", e, at)
		}
	}
	for b := range 256 {
		source := "rest a on 3" + string([]byte{byte(b)}) + ";"
		e, at := plainRead(source, "SOURCE")
		reads(t, source, "SOURCE", e, at)
	}
}

func TestP8_1Random(t *testing.T) {
	r := random(3)
	n := 0
	for range 2000 {
		w := randomRoster(r, 6, 400)
		w.Orders = randomOrders(r, 4, 4, wide(r))
		if got, e := watch.Print(w); got != plainText(w) || e != api.OK {
			t.Fatal(w, got, e)
		}
		source := looseText(r, w)
		if len(source) > api.MaxSource {
			continue
		}
		n++
		if got := parsed(t, source); !sameWatch(got, w) {
			t.Fatalf("%q: %v instead of %v", source, got, w)
		}
		for _, o := range w.Orders {
			text := respaced(r, looseCond(r, o.When))
			if got := cond(t, text); !sameCond(got, o.When) {
				t.Fatalf("%q: %v instead of %v", text, got, o.When)
			}
			if got, e := watch.PrintCond(o.When); got != plainCond(o.When) || e != api.OK {
				t.Fatal(o.When, got, e)
			}
		}
	}
	counted(t, "sources", n, 1500)
}

func TestP8_10Texts(t *testing.T) {
	r := random(4)
	n, long := 0, 0
	for range 2000 {
		w := randomRoster(r, []int{5, 60}[r.IntN(2)], 400)
		w.Orders = randomOrders(r, 30, 6, wide(r))
		text, e := watch.Print(w)
		if e == api.ErrForm {
			continue // a condition was too large
		}
		mustBe(t, e, api.OK, w)
		if len(text) > api.MaxSource {
			reads(t, text, "SOURCE", api.ErrLimit, 0)
			long++
			continue
		}
		n++
		got := parsed(t, text)
		again, e := watch.Print(got)
		if !sameWatch(got, w) || again != text || e != api.OK {
			t.Fatalf("%q: %v instead of %v, and %q", text, got, w, again)
		}
		for _, o := range w.Orders {
			text, _ := watch.PrintCond(o.When)
			if got := cond(t, text); !sameCond(got, o.When) {
				t.Fatal(text, got)
			}
		}
		// What is read of another text, printed and read again, is the same.
		read := parsed(t, looseText(r, api.Watch{Lines: w.Lines[:min(5, len(w.Lines))]}))
		text, _ = watch.Print(read)
		if !sameWatch(parsed(t, text), read) {
			t.Fatal(text, read)
		}
	}
	counted(t, "watches", n, 500)
	counted(t, "watches with long texts", long, 50)
}
