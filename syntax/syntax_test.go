package syntax_test

import (
	"math/rand"
	"slices"
	"strings"
	"testing"

	"cabal/api"
	"cabal/syntax"
	"cabal/token"
)

func cut(t *testing.T, s string) []api.Token {
	t.Helper()
	l, at, e := token.Cut(s)
	if e != api.OK {
		t.Fatalf("%q: %d at %d", s, e, at)
	}
	return l
}

func parse(t *testing.T, s string) []api.Stmt {
	t.Helper()
	l, at, e := syntax.Parse(cut(t, s))
	if e != api.OK || at != 0 {
		t.Fatalf("%q: %d at %d", s, e, at)
	}
	return l
}

// same says whether two trees are the same, with nil lists as empty ones.
func same(a, b []api.Stmt) bool {
	return slices.EqualFunc(a, b, func(x, y api.Stmt) bool {
		return x.Kind == y.Kind && x.Verb == y.Verb && x.Text == y.Text && sameExprs(x.Exprs, y.Exprs) && same(x.Body, y.Body) && same(x.Else, y.Else)
	})
}

func sameExprs(a, b []api.Expr) bool {
	return slices.EqualFunc(a, b, func(x, y api.Expr) bool {
		return x.Kind == y.Kind && x.N == y.N && x.Text == y.Text && sameExprs(x.Kids, y.Kids)
	})
}

// fails checks an error of a text: at which token, and which.
func fails(t *testing.T, s string, at int, want api.Errno) {
	t.Helper()
	if l, where, e := syntax.Parse(cut(t, s)); e != want || where != at || len(l) != 0 {
		t.Errorf("%.100q: %d at %d, not %d at %d", s, e, where, want, at)
	}
}

func num(n int) api.Expr { return api.Expr{Kind: api.ExNumber, N: n} }

func ref(s string) api.Expr { return api.Expr{Kind: api.ExName, Text: s} }

func call(s string, kids ...api.Expr) api.Expr {
	return api.Expr{Kind: api.ExCall, Text: s, Kids: kids}
}

func two(s string, a, b api.Expr) api.Expr {
	return api.Expr{Kind: api.ExTwo, Text: s, Kids: []api.Expr{a, b}}
}

func not(x api.Expr) api.Expr { return api.Expr{Kind: api.ExNot, Kids: []api.Expr{x}} }

func minus(x api.Expr) api.Expr { return api.Expr{Kind: api.ExMinus, Kids: []api.Expr{x}} }

func stmt(kind int, verb, text string, exprs ...api.Expr) api.Stmt {
	return api.Stmt{Kind: kind, Verb: verb, Text: text, Exprs: exprs}
}

func TestP31_1Statements(t *testing.T) {
	repeat, choice, other := stmt(api.StRepeat, "repeat", "", num(3)), stmt(api.StIf, "if", "", ref("x")), stmt(api.StIf, "if", "", num(0))
	calm := stmt(api.StCalm, "calm", "", num(2))
	repeat.Body, choice.Body = []api.Stmt{calm, calm}, []api.Stmt{calm}
	choice.Else = []api.Stmt{repeat}
	other.Body = []api.Stmt{choice}
	empty := stmt(api.StRepeat, "repeat", "", num(1))
	for s, want := range map[string][]api.Stmt{
		"":                             nil,
		"let x = 1;":                   {stmt(api.StLet, "let", "x", num(1))},
		"calm 2; expect x;":            {calm, stmt(api.StExpect, "expect", "", ref("x"))},
		"do 0 create 0;":               {stmt(api.StDo, "create", "", num(0), num(0))},
		"do 0 create 0, 1, x;":         {stmt(api.StDo, "create", "", num(0), num(0), num(1), ref("x"))},
		"do 0 add 1;":                  {stmt(api.StDo, "add", "", num(0), num(1))},
		"do 0 remove 1;":               {stmt(api.StDo, "remove", "", num(0), num(1))},
		"do 0 fuse -1;":                {stmt(api.StDo, "fuse", "", num(0), minus(num(1)))},
		`do 0 say "a\x00";`:            {stmt(api.StDo, "say", "a\x00", num(0))},
		"do x update;":                 {stmt(api.StDo, "update", "", ref("x"))},
		"do 0 tick;":                   {stmt(api.StDo, "tick", "", num(0))},
		"do 0 crash;":                  {stmt(api.StDo, "crash", "", num(0))},
		"do 0 start;":                  {stmt(api.StDo, "start", "", num(0))},
		"do 0 leak;":                   {stmt(api.StDo, "leak", "", num(0))},
		"do 0 fetch 1, 2;":             {stmt(api.StDo, "fetch", "", num(0), num(1), num(2))},
		"do 0 drop 1, 2;":              {stmt(api.StDo, "drop", "", num(0), num(1), num(2))},
		"do 0 double 1, 2;":            {stmt(api.StDo, "double", "", num(0), num(1), num(2))},
		"do 0 move 1, 2;":              {stmt(api.StDo, "move", "", num(0), num(1), num(2))},
		"do create create say;":        {stmt(api.StDo, "create", "", ref("create"), ref("say"))},
		"repeat 3 { calm 2; calm 2; }": {repeat},
		"if x { calm 2; } else { repeat 3 { calm 2; calm 2; } }":                  {choice},
		"if 0 { if x { calm 2; } else { repeat 3 { calm 2; calm 2; } } } calm 2;": {other, calm},
		"repeat 1 { }":                {empty},
		"repeat 1 {} if 0 {} else {}": {empty, stmt(api.StIf, "if", "", num(0))},
	} {
		if got := parse(t, s); !same(got, want) {
			t.Errorf("%q: %v, not %v", s, got, want)
		}
	}
}

func TestP31_1Expressions(t *testing.T) {
	a, b, c, d := ref("a"), ref("b"), ref("c"), ref("d")
	for s, want := range map[string]api.Expr{
		"a - b - c":             two("-", two("-", a, b), c),
		"a + b * c - d":         two("-", two("+", a, two("*", b, c)), d),
		"a / b % c * d":         two("*", two("%", two("/", a, b), c), d),
		"(a - (b - c))":         two("-", a, two("-", b, c)),
		"a = b + c":             two("=", a, two("+", b, c)),
		"a < b & c > d":         two("&", two("<", a, b), two(">", c, d)),
		"a | b & c | d":         two("|", two("|", a, two("&", b, c)), d),
		"a & b & c":             two("&", two("&", a, b), c),
		"!a = b":                two("=", not(a), b),
		"!-!a":                  not(minus(not(a))),
		"-a * -b":               two("*", minus(a), minus(b)),
		"-(a + b)":              minus(two("+", a, b)),
		"f()":                   call("f"),
		"f(a)":                  call("f", a),
		"f(a, b + c, g(1))":     call("f", a, two("+", b, c), call("g", num(1))),
		"!f(a) | say(let1)":     two("|", not(call("f", a)), call("say", ref("let1"))),
		"(a = b) = c":           two("=", two("=", a, b), c),
		"a = (b < c)":           two("=", a, two("<", b, c)),
		"((((a))))":             a,
		"999999999":             num(999999999),
		"1 + 2 * -a":            two("+", num(1), two("*", num(2), minus(a))),
		"a - -1":                two("-", a, minus(num(1))),
		"create + tick * elsea": two("+", ref("create"), two("*", ref("tick"), ref("elsea"))),
	} {
		got := parse(t, "expect "+s+";")
		if !same(got, []api.Stmt{stmt(api.StExpect, "expect", "", want)}) {
			t.Errorf("%q: %v, not %v", s, got, want)
		}
	}
}

func TestP31_1Form(t *testing.T) {
	for s, at := range map[string]int{
		"let": 1, "let x": 2, "let x =": 3, "let x = 1": 4, "calm": 1, "calm 1": 2, "do": 1, "do 0": 2, "do 0 say": 3, `do 0 say "a"`: 4, "do 0 add": 3, "do 0 add 1": 4, "do 0 create 1,": 5, "do 0 fetch 1": 4, "do 0 fetch 1,": 5,
		"repeat": 1, "repeat 1": 2, "repeat 1 {": 3, "repeat 1 { calm 1;": 6, "if 1": 2, "if 1 {} else": 5, "if 1 {} else {": 6, "expect (": 2, "expect (1": 3, "expect f(": 3, "expect f(1": 4, "expect f(1,": 5, "expect !": 2, "expect 1 +": 3,
		";": 0, "}": 0, "x": 0, "1": 0, `"a"`: 0, "else {}": 0, "create 1;": 0, "calm 1; }": 3, "calm 1;;": 3, "repeat 1 {} else {}": 4, "if 1 {} else {} else {}": 7, "repeat 1 { 1": 3, "repeat 1 { else": 3,
		"let 1 = 2;": 1, "let let = 1;": 1, "let else = 1;": 1, "let do = 1;": 1, "let if = 1;": 1, "let calm = 1;": 1, "let expect = 1;": 1, "let repeat = 1;": 1, "let x 1;": 2, "let x = ;": 3, "let x = 1 1;": 4, "let x = let;": 3, `let x = "a";`: 3, "let f(1) = 2;": 2,
		"do tick;": 2, "do 0 1;": 2, "do 0 jump;": 2, "do 0 let;": 2, "do 0;": 2, "do 0 tick 1;": 3, "do 0 say 1;": 3, "do 0 say a;": 3, `do 0 say "a" "b";`: 4, "do 0 create;": 3, "do 0 create 1 2;": 4, "do 0 create 1,;": 5, "do 0 add 1, 2;": 4, "do 0 fetch 1;": 4, "do 0 fetch 1, 2, 3;": 6, "do 0 update 1;": 3, `do 0 tick "a";`: 3,
		"repeat 1 calm 1;": 2, "repeat { }": 1, "if {": 1, "if 1 {} else calm 1;": 5, "if 1 {} else if 1 {}": 5, "calm 1 { }": 2, "expect 1": 2,
		"expect a = b = c;": 4, "expect a < b > c;": 4, "expect a = b < c & d;": 4, "expect ();": 2, "expect f(,);": 3, "expect f(1,);": 5, "expect f(1 2);": 4, "expect 1(2);": 2, "expect (1;": 3, "expect 1);": 2, "expect + 1;": 1, "expect 1 + * 2;": 3, "expect 1 ! 2;": 2, "expect if;": 1, "expect f(else);": 3, "expect do(1);": 1, "expect f(1)(2);": 5, "expect a b;": 2, "expect {;": 1, "expect a,b;": 2, "expect (a)(b);": 4, "let x = (a = b = c);": 7,
	} {
		fails(t, s, at, api.ErrForm)
	}
}

func TestP31_1OddTokens(t *testing.T) {
	good := cut(t, `do 0 create 1, f(-2); do 1 say "a"; if 1 { calm 2; } else { }`)
	for i := range good {
		for _, kind := range []int{0, 5, -1, 1 << 40} {
			odd := append([]api.Token(nil), good...)
			odd[i].Kind = kind
			if l, at, e := syntax.Parse(odd); at != i || e != api.ErrForm || len(l) > 0 {
				t.Errorf("kind %d at %d: %d at %d", kind, i, e, at)
			}
		}
	}
	name := func(s string) api.Token { return api.Token{Kind: api.TokName, Text: s} }
	sign := func(s string) api.Token { return api.Token{Kind: api.TokSign, Text: s, N: 7} }
	number := func(n int) api.Token { return api.Token{Kind: api.TokNumber, N: n, Text: "odd"} }
	for i, x := range []struct {
		l  []api.Token
		at int
		e  api.Errno
	}{
		{[]api.Token{name("calm"), number(-5), sign(";")}, 0, api.OK}, {[]api.Token{name("calm"), number(1 << 50), sign(";")}, 0, api.OK}, {[]api.Token{name("calm"), number(1), sign("+-"), number(1), sign(";")}, 2, api.ErrForm},
		{[]api.Token{name("calm"), number(1), sign(""), number(1), sign(";")}, 2, api.ErrForm}, {[]api.Token{name("calm"), number(1), name(";")}, 2, api.ErrForm}, {[]api.Token{sign("calm"), number(1), sign(";")}, 0, api.ErrForm},
		{[]api.Token{{Kind: api.TokText, Text: "calm"}, number(1), sign(";")}, 0, api.ErrForm}, {[]api.Token{name("calm"), {Kind: api.TokText, Text: "x"}, sign(";")}, 1, api.ErrForm},
	} {
		if _, at, e := syntax.Parse(x.l); at != x.at || e != x.e {
			t.Errorf("case %d: %d at %d", i, e, at)
		}
	}
	if l, _, _ := syntax.Parse([]api.Token{name("calm"), number(-5), sign(";")}); !same(l, []api.Stmt{stmt(api.StCalm, "calm", "", num(-5))}) {
		t.Errorf("a number is not used as it is: %v", l)
	}
}

func TestP31_1Deep(t *testing.T) {
	open := func(n int) string { return strings.Repeat("(", n) }
	fine := func(s string) {
		t.Helper()
		parse(t, s)
	}
	fine("expect " + open(20) + "1" + strings.Repeat(")", 20) + ";")
	fails(t, "expect "+open(21)+"1"+strings.Repeat(")", 21)+";", 22, api.ErrDeep)
	fails(t, "expect "+open(30)+"1", 22, api.ErrDeep)
	fails(t, "expect "+open(21), 22, api.ErrDeep)
	fails(t, "expect "+open(20), 21, api.ErrForm)
	fine("expect " + strings.Repeat("!-", 10) + "1;")
	fails(t, "expect "+strings.Repeat("!-", 10)+"!1;", 22, api.ErrDeep)
	fails(t, "expect "+strings.Repeat("!-", 10)+"!", 22, api.ErrDeep)
	fine("expect " + strings.Repeat("f(", 20) + "1" + strings.Repeat(")", 20) + ";")
	fine("expect " + strings.Repeat("f(", 20) + "g()" + strings.Repeat(")", 20) + ";")
	fails(t, "expect "+strings.Repeat("f(", 21)+"1", 43, api.ErrDeep)
	fails(t, "expect "+strings.Repeat("f(", 20)+"1, (2)", 44, api.ErrDeep)
	fine(strings.Repeat("repeat 1 {", 20) + "calm 1;" + strings.Repeat("}", 20))
	fails(t, strings.Repeat("repeat 1 {", 21)+"calm 1;", 62, api.ErrDeep)
	fails(t, strings.Repeat("if 1 {} else {", 20)+"if 1 {", 122, api.ErrDeep)
	fails(t, strings.Repeat("repeat 1 {", 10)+"calm -((!((((((1", 42, api.ErrForm)
	fails(t, strings.Repeat("repeat 1 {", 15)+"calm -((!((1", 52, api.ErrDeep)
	fine("calm " + open(20) + "1" + strings.Repeat(")", 20) + " + " + open(20) + "1" + strings.Repeat(")", 20) + "; repeat (1) { }")
	fails(t, "calm 1 1; expect "+open(30), 2, api.ErrForm)
}

func TestP31_1Many(t *testing.T) {
	fine := strings.Repeat("calm 1;", 300)
	parse(t, fine)
	fails(t, fine+"calm 1;", 903, api.ErrMany)
	sum := "calm 1" + strings.Repeat("+1", 299) + ";" // a statement, 300 numbers, 299 sums
	parse(t, sum)
	fails(t, "calm 1"+strings.Repeat("+1", 300)+";", 603, api.ErrMany)
	fails(t, sum+"repeat 1 1", 603, api.ErrForm)
	fails(t, sum+"repeat 1 {", 604, api.ErrForm)
	parse(t, "calm "+strings.Repeat("((1))+", 298)+"f(-1);") // a statement, 298 numbers and sums, a call, a minus and a number
	fails(t, "calm "+strings.Repeat("((1))+", 298)+"f(!1, 2);", 1+298*6+8, api.ErrMany)
	parse(t, "repeat 1 { if 1 {} else {} }"+strings.Repeat("calm 1;", 298))
	fails(t, "repeat 1 { if 1 {} else {} }"+strings.Repeat("calm 1;", 299), 11+3*299, api.ErrMany)
}

func TestP31_2Print(t *testing.T) {
	for s, want := range map[string]string{
		"":                                   "",
		"let x=1+2*-y;":                      " let x = (1 + (2 * (- y)));",
		"calm(1);expect!x;":                  " calm 1; expect (! x);",
		"do 0 create 0,1;":                   " do 0 create 0, 1;",
		"do a+1 fetch b,c;do 0 tick;":        " do (a + 1) fetch b, c; do 0 tick;",
		`do 0 say "a\"\\\x00\xff~ b\x7f";`:   ` do 0 say "a\"\\\x00\xff~ b\x7f";`,
		`do 0 say "\x41";do 0 say "";`:       ` do 0 say "A"; do 0 say "";`,
		"expect f()&g(1,a-b,h(2));":          " expect (f() & g(1, (a - b), h(2)));",
		"repeat 3{}":                         " repeat 3 { }",
		"repeat n{calm 1;calm 2;}":           " repeat n { calm 1; calm 2; }",
		"if a{calm 1;}else{}":                " if a { calm 1; }",
		"if a{}else{if b{}else{calm 2;}}":    " if a { } else { if b { } else { calm 2; } }",
		"expect a=b|c<d&e>f;":                " expect ((a = b) | ((c < d) & (e > f)));",
		"expect a-b-c/d%e;":                  " expect ((a - b) - ((c / d) % e));",
		"expect --1;let x=999999999;calm 0;": " expect (- (- 1)); let x = 999999999; calm 0;",
	} {
		if got := syntax.Print(parse(t, s)); got != want {
			t.Errorf("%q: %q, not %q", s, got, want)
		}
	}
}

// anyExpr is an expression that is at most so deep.
func anyExpr(r *rand.Rand, deep int) api.Expr {
	names := []string{"a", "bc", "x1", "create", "say", "last"}
	kinds := 6
	if deep == 0 {
		kinds = 2
	}
	switch r.Intn(kinds) {
	case 0:
		return num(r.Intn(1000000000) >> r.Intn(30))
	case 1:
		return ref(names[r.Intn(len(names))])
	case 2:
		return not(anyExpr(r, deep-1))
	case 3:
		return minus(anyExpr(r, deep-1))
	case 4:
		x := call(names[r.Intn(len(names))])
		for range r.Intn(3) {
			x.Kids = append(x.Kids, anyExpr(r, deep-1))
		}
		return x
	}
	return two(string("+-*/%=<>&|"[r.Intn(10)]), anyExpr(r, deep-1), anyExpr(r, deep-1))
}

func anyScene(r *rand.Rand, deep int) []api.Stmt {
	var l []api.Stmt
	for range r.Intn(4) {
		x := anyExpr(r, 3)
		switch r.Intn(7) {
		case 0:
			l = append(l, stmt(api.StLet, "let", "name", x))
		case 1:
			l = append(l, stmt(api.StCalm, "calm", "", x))
		case 2:
			l = append(l, stmt(api.StExpect, "expect", "", x))
		case 3:
			b := make([]byte, r.Intn(9))
			r.Read(b)
			l = append(l, stmt(api.StDo, "say", string(b), x))
		case 4:
			verb := []string{"create", "move", "fuse", "leak"}[r.Intn(4)]
			s := stmt(api.StDo, verb, "", x)
			for range map[string]int{"create": 1 + r.Intn(3), "move": 2, "fuse": 1}[verb] {
				s.Exprs = append(s.Exprs, anyExpr(r, 2))
			}
			l = append(l, s)
		case 5, 6:
			s := stmt(api.StRepeat, "repeat", "", x)
			if deep > 0 {
				s.Body = anyScene(r, deep-1)
				if r.Intn(2) == 0 {
					s.Kind, s.Verb, s.Else = api.StIf, "if", anyScene(r, deep-1)
				}
			}
			l = append(l, s)
		}
	}
	return l
}

func TestP31_3PrintedAndParsed(t *testing.T) {
	r := rand.New(rand.NewSource(1))
	done := 0
	for range 600 {
		tree := anyScene(r, 3)
		tokens, _, e := token.Cut(syntax.Print(tree))
		if e != api.OK {
			continue // it is too long
		}
		got, at, e := syntax.Parse(tokens)
		if e == api.ErrMany {
			continue
		}
		if e != api.OK || !same(got, tree) {
			t.Fatalf("%q: %d at %d, %v, not %v", syntax.Print(tree), e, at, got, tree)
		}
		if again := syntax.Print(got); again != syntax.Print(tree) {
			t.Fatalf("%q is printed as %q", syntax.Print(tree), again)
		}
		done++
	}
	if done < 300 {
		t.Errorf("only %d trees", done)
	}
}

func TestP31_4Prefixes(t *testing.T) {
	r := rand.New(rand.NewSource(2))
	for range 200 {
		tree := anyScene(r, 2)
		whole, _, e := token.Cut(syntax.Print(tree))
		if e != api.OK {
			continue
		}
		got, _, e := syntax.Parse(whole)
		if e != api.OK {
			continue
		}
		for n := range got {
			part, at, e := syntax.Parse(cut(t, syntax.Print(got[:n])))
			if e != api.OK || !same(part, got[:n]) {
				t.Fatalf("the first %d statements of %q: %d at %d", n, syntax.Print(tree), e, at)
			}
		}
		for i := range whole { // what goes wrong, goes wrong at the first token that can't follow
			odd := append([]api.Token(nil), whole...)
			odd[i] = api.Token{Kind: api.TokSign, Text: string("(){},;=<>+-*/%&|!"[r.Intn(17)])}
			if _, at, e := syntax.Parse(odd); e == api.ErrForm && at < len(odd) {
				_, before, f := syntax.Parse(odd[:at])
				_, there, g := syntax.Parse(odd[:at+1])
				if f != api.OK && (f != api.ErrForm || before != at) || g != api.ErrForm || there != at || at < i {
					t.Fatalf("%v: at %d, but at %d without that token", odd, at, before)
				}
			}
		}
	}
}
