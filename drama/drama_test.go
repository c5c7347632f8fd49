package drama_test

import (
	"fmt"
	"math"
	"slices"
	"strings"
	"testing"

	"cabal/api"
	"cabal/drama"
	"cabal/syntax"
	"cabal/token"
)

var place = api.Place{Members: 3, Relays: 2, Blocks: 400}

// play plays a text that must be a scene.
func play(t *testing.T, text string) api.Outcome {
	t.Helper()
	out, at, e := drama.Play(place, text)
	if e != api.OK || at != 0 {
		t.Fatalf("%q: %d at %d", text, e, at)
	}
	return out
}

func same(a, b api.Outcome) bool {
	return a.Steps == b.Steps && a.Err == b.Err && slices.Equal(a.Failed, b.Failed) && slices.Equal(a.Told, b.Told)
}

// holds checks that a scene is played to its end, and no step fails.
func holds(t *testing.T, text string) {
	t.Helper()
	if out := play(t, text); out.Err != api.OK || len(out.Failed) > 0 {
		t.Errorf("%q: %v", text, out)
	}
}

// stops checks the error with which a scene stops.
func stops(t *testing.T, text string, want api.Errno) {
	t.Helper()
	if out := play(t, text); out.Err != want {
		t.Errorf("%q: %v, not %d", text, out, want)
	}
}

func TestExamples(t *testing.T) {
	add := "do 0 create 0, 1; calm 2; do 1 add 2; calm 3; expect in(0, 2) & same(0, 2) & same(1, 2);"
	for _, x := range []struct {
		text   string
		failed []int
	}{
		{`do 0 create 0, 1; calm 2; do 1 say "a"; calm 2; expect inbox(0) = 1;`, nil},
		{add, nil},
		{add + ` do 0 remove 1; calm 3; do 2 say "x"; calm 2; expect inbox(0) = 1; expect inbox(1) = 0; expect !in(2, 1);`, nil},
		{`do 0 create 0, 1; calm 2; do 0 say "a"; expect open(0);`, []int{4}},
		{`do 0 create 0, 1; calm 2; do 1 leak; do 0 say "a"; expect open(0);`, nil},
		{`do 0 create 0, 1; calm 2; do 0 say "a"; calm 2; do 1 leak; expect open(0);`, []int{6}},
		{`do 0 create 0, 1; do 0 crash; expect !up(0); do 0 start; expect nodes(0) = 1;`, nil},
		{`do 0 create 0, 1; do 1 fetch 0, 0; expect nodes(1) = 2;`, nil},
	} {
		if out := play(t, x.text); out.Err != api.OK || !slices.Equal(out.Failed, x.failed) {
			t.Errorf("%q: %v", x.text, out)
		}
	}
	if out := play(t, "do 0 tick; do 9 tick; expect last = 22;"); !same(out, api.Outcome{Steps: 3, Told: []api.Errno{api.OK, api.ErrNone}}) {
		t.Errorf("example 8: %v", out)
	}
	if out := play(t, "let x = 1 / 0;"); !same(out, api.Outcome{Steps: 1, Err: api.ErrZero}) {
		t.Errorf("example 10: %v", out)
	}
	out, at, e := drama.Play(api.Place{Members: 2, Relays: 1, Blocks: 200}, `do 0 create 0, 1; calm 2; do 1 say "a"; calm 2; expect inbox(0) = 1; expect open(0);`)
	if e != api.OK || at != 0 || !same(out, api.Outcome{Steps: 6, Failed: []int{6}, Told: []api.Errno{api.OK, api.OK}}) {
		t.Errorf("the chapter's example: %d at %d, %v", e, at, out)
	}
}

func TestP32_1Place(t *testing.T) {
	for p, want := range map[api.Place]api.Errno{{Members: 0, Relays: 1, Blocks: 400}: api.ErrArg, {Members: 9, Relays: 1, Blocks: 400}: api.ErrArg, {Members: 2, Relays: 5, Blocks: 400}: api.ErrArg, {Members: 2, Relays: 1, Blocks: 5}: api.ErrFull, {Members: 2, Relays: 1, Blocks: 1}: api.ErrArg} {
		out, at, e := drama.Play(p, "expect 0; calm 1;")
		if e != api.OK || at != 0 || !same(out, api.Outcome{Err: want}) {
			t.Errorf("%v: %d at %d, %v", p, e, at, out)
		}
	}
	if out := drama.Run(place, nil); !same(out, api.Outcome{}) {
		t.Errorf("no statements: %v", out)
	}
}

func TestP32_1Values(t *testing.T) {
	for text, want := range map[string]int{
		"7": 7, "-7": -7, "!0": 1, "!5": 0, "!(-5)": 0, "--3": 3, "2 + 3 * 4": 14, "2 - 3 - 4": -5, "7 / 2": 3, "-7 / 2": -3, "7 / -2": -3, "-7 / -2": 3, "7 % 3": 1, "-7 % 3": -1, "7 % -3": 1, "-7 % -3": -1, "0 / 5": 0, "0 % 5": 0,
		"3 = 3": 1, "3 = 4": 0, "3 < 4": 1, "4 < 3": 0, "3 < 3": 0, "4 > 3": 1, "3 > 4": 0, "3 > 3": 0, "-1 < 0": 1, "2 & 3": 1, "2 & 0": 0, "0 & 2": 0, "0 & 0": 0, "2 | 0": 1, "0 | 3": 1, "0 | 0": 0, "-1 | 0": 1, "-1 & -1": 1,
		"999999 * 1000000": 999999000000, "1000000 * 1000000": 1000000000000, "-1000000 * 1000000": -1000000000000, "999999999 * 0": 0, "0 * 999999999": 0, "last": 0, "(1 = 1) + (2 > 1)": 2,
	} {
		holds(t, fmt.Sprintf("let x = %s; expect x = %d * %d + %d;", text, want/1000000, 1000000, want%1000000))
	}
	holds(t, "let x = 3; let y = x * x; let x = y + 1; expect x = 10 & y = 9; let last = 5; expect last = 5; do 9 tick; expect last = 22; do 0 tick; expect last = 0;")
}

func TestP32_1ValueErrors(t *testing.T) {
	for text, want := range map[string]api.Errno{
		"x": api.ErrNone, "x + 1 / 0": api.ErrNone, "1 / 0 + x": api.ErrZero, "1 % 0": api.ErrZero, "1 / (1 - 1)": api.ErrZero, "0 / 0": api.ErrZero, "f(1)": api.ErrArg, "f(x)": api.ErrNone, "f(1 / 0)": api.ErrZero, "last(1)": api.ErrArg,
		"nodes()": api.ErrArg, "nodes(1, 2)": api.ErrArg, "held()": api.ErrArg, "inbox(1, 2)": api.ErrArg, "up()": api.ErrArg, "in(1)": api.ErrArg, "in(1, 2, 3)": api.ErrArg, "same(1)": api.ErrArg, "mail(1)": api.ErrArg, "said(1)": api.ErrArg, "open()": api.ErrArg, "open(1, 2)": api.ErrArg,
		"1000000 * 1000001": api.ErrRange, "1000000 * 1000000 + 1": api.ErrRange, "-1000000 * 1000000 - 1": api.ErrRange, "1000001 * 1000001 * 0": api.ErrRange, "999999999 * 999999999": api.ErrRange, "1000000 * 1000000 * (1000000 * 1000000)": api.ErrRange, "-999999999 * 999999999": api.ErrRange,
		"0 & x": api.ErrNone, "1 | 1 / 0": api.ErrZero, "!x": api.ErrNone, "-(1 / 0)": api.ErrZero, "nodes(x)": api.ErrNone, "in(1 / 0, x)": api.ErrZero, "in(x, 1 / 0)": api.ErrNone, "(1 / 0) = x": api.ErrZero, "1000000 * 1000000 + 1 = 1 / 0": api.ErrRange,
	} {
		for _, scene := range []string{"let a = %s;", "expect %s;", "calm %s;", "repeat %s { }", "if %s { }", "do %s tick;", "do 0 create 1, %s;"} {
			if out := play(t, fmt.Sprintf(scene, text)+" calm 1;"); !same(out, api.Outcome{Steps: 1, Err: want}) {
				t.Errorf("%s: %v, not %d", fmt.Sprintf(scene, text), out, want)
			}
		}
	}
}

func num(n int) api.Expr { return api.Expr{Kind: api.ExNumber, N: n} }

func TestP32_1OddTrees(t *testing.T) {
	name := api.Expr{Kind: api.ExName, Text: "x"}
	zero := api.Expr{Kind: api.ExTwo, Text: "/", Kids: []api.Expr{num(1), num(0)}}
	for i, x := range []struct {
		x    api.Expr
		want api.Errno
	}{
		{num(1000000000000), api.OK}, {num(1000000000001), api.ErrRange}, {num(-1000000000001), api.ErrRange}, {num(math.MaxInt), api.ErrRange}, {num(math.MinInt), api.ErrRange},
		{api.Expr{}, api.ErrArg}, {api.Expr{Kind: 7}, api.ErrArg}, {api.Expr{Kind: -1}, api.ErrArg}, {api.Expr{Kind: 7, Kids: []api.Expr{name}}, api.ErrNone},
		{api.Expr{Kind: api.ExNumber, Kids: []api.Expr{num(1)}}, api.ErrArg}, {api.Expr{Kind: api.ExNumber, Kids: []api.Expr{zero}}, api.ErrZero}, {api.Expr{Kind: api.ExName, Text: "last", Kids: []api.Expr{num(1)}}, api.ErrArg},
		{api.Expr{Kind: api.ExNot}, api.ErrArg}, {api.Expr{Kind: api.ExNot, Kids: []api.Expr{num(1), num(2)}}, api.ErrArg}, {api.Expr{Kind: api.ExMinus}, api.ErrArg}, {api.Expr{Kind: api.ExMinus, Kids: []api.Expr{num(1), zero}}, api.ErrZero},
		{api.Expr{Kind: api.ExTwo, Text: "+"}, api.ErrArg}, {api.Expr{Kind: api.ExTwo, Text: "+", Kids: []api.Expr{num(1)}}, api.ErrArg}, {api.Expr{Kind: api.ExTwo, Text: "+", Kids: []api.Expr{num(1), num(2), num(3)}}, api.ErrArg},
		{api.Expr{Kind: api.ExTwo, Text: "?", Kids: []api.Expr{num(1), num(2)}}, api.ErrArg}, {api.Expr{Kind: api.ExTwo, Kids: []api.Expr{num(1), name}}, api.ErrNone}, {api.Expr{Kind: api.ExCall, Text: "said"}, api.OK}, {api.Expr{Kind: api.ExCall}, api.ErrArg},
	} {
		if out := drama.Run(place, []api.Stmt{{Kind: api.StExpect, Exprs: []api.Expr{x.x}}}); out.Err != x.want || out.Steps != 1 {
			t.Errorf("expression %d: %v, not %d", i, out, x.want)
		}
	}
	one, bad := []api.Expr{num(1)}, []api.Expr{num(1), zero}
	for i, x := range []struct {
		s    api.Stmt
		want api.Errno
	}{
		{api.Stmt{}, api.ErrArg}, {api.Stmt{Kind: api.StLet}, api.ErrArg}, {api.Stmt{Kind: api.StDo, Verb: "tick"}, api.ErrArg}, {api.Stmt{Kind: api.StCalm}, api.ErrArg}, {api.Stmt{Kind: api.StExpect}, api.ErrArg}, {api.Stmt{Kind: api.StRepeat}, api.ErrArg}, {api.Stmt{Kind: api.StIf}, api.ErrArg},
		{api.Stmt{Kind: 7, Exprs: one}, api.ErrArg}, {api.Stmt{Kind: 7, Exprs: []api.Expr{zero}}, api.ErrZero}, {api.Stmt{Kind: 7, Exprs: bad}, api.ErrArg}, {api.Stmt{Kind: api.StDo, Verb: "jump", Exprs: one}, api.ErrArg}, {api.Stmt{Kind: api.StDo, Verb: "jump", Exprs: bad}, api.ErrZero}, {api.Stmt{Kind: api.StDo, Exprs: one}, api.ErrArg},
		{api.Stmt{Kind: api.StExpect, Exprs: bad}, api.OK}, {api.Stmt{Kind: api.StLet, Exprs: bad}, api.OK}, {api.Stmt{Kind: api.StDo, Verb: "tick", Exprs: bad}, api.ErrZero},
	} {
		if out := drama.Run(place, []api.Stmt{x.s}); out.Err != x.want || out.Steps != 1 || len(out.Told) > 0 {
			t.Errorf("statement %d: %v, not %d", i, out, x.want)
		}
	}
}

func do(verb, text string, values ...int) api.Stmt {
	s := api.Stmt{Kind: api.StDo, Verb: verb, Text: text}
	for _, n := range values {
		s.Exprs = append(s.Exprs, num(n))
	}
	return s
}

func TestP32_1Verbs(t *testing.T) {
	told := func(want []api.Errno, l ...api.Stmt) {
		t.Helper()
		if out := drama.Run(place, l); out.Err != api.OK || !slices.Equal(out.Told, want) {
			t.Errorf("%v: %v, not %v", l, out, want)
		}
	}
	told([]api.Errno{api.ErrNone, api.ErrNone, api.ErrArg, api.ErrArg, api.ErrArg}, do("tick", "", -1), do("tick", "", 3), do("create", "", 0), do("create", "", 0, 1), do("create", "", 0, 3))
	told([]api.Errno{api.OK, api.ErrArg, api.ErrArg, api.ErrArg, api.OK, api.ErrThere, api.ErrNone}, do("create", "ignored", 1, 1), do("add", "", 1), do("add", "", 1, 0, 2), do("add", "", 1, 1), do("add", "", 1, 2), do("add", "", 1, 2), do("remove", "", 1, 0))
	told([]api.Errno{api.OK, api.ErrArg, api.OK}, do("create", "", 0, 0), do("say", strings.Repeat("x", 65), 0), do("say", "t", 0, 5, 6, 7))
	told([]api.Errno{api.OK, api.OK, api.ErrNone, api.OK}, do("create", "", 0, 0, 1), do("fetch", "", 1), do("fetch", "", 1), do("fetch", "", 0, 1)) // missing numbers are 0
	told([]api.Errno{api.OK, api.ErrNone, api.ErrNone, api.ErrNone, api.OK}, do("create", "", 0, 0, 1), do("drop", "", 1, 2), do("drop", "", 1, 0, 1), do("drop", "", 1, -1), do("drop", "", 1, 0, 0))
	told([]api.Errno{api.OK, api.OK, api.ErrDead, api.ErrDead, api.OK, api.ErrThere}, do("create", "", 0, 0), do("fuse", "", 0), do("update", "", 0), do("update", "", 0), do("start", "", 0), do("start", "", 0))
}

func TestP32_1VerbsInScenes(t *testing.T) {
	holds(t, `do 0 create 1, 0; expect last = 0 & mail(0, 1) = 1 & mail(1, 1) = 0; do 0 update; do 0 say "a"; expect mail(0, 1) = 2 & mail(1, 1) = 1;
		do 1 double 0, 1; expect mail(0, 1) = 3; do 1 move 0, 2; do 1 drop 0, 2; expect mail(0, 1) = 2; do 1 fetch 0, 1; expect nodes(1) = 2; do 1 fetch 1, 0; expect nodes(1) = 4; do 1 fetch 0, 0; expect nodes(1) = 5 & inbox(1) = 1 & held(1) = 0;`)
	holds(t, `do 0 create 0, 1; do 0 fuse 4; do 0 update; expect last = 0; do 0 update; expect last = 7 & !up(0); do 0 tick; expect last = 7; do 0 start; expect up(0) & nodes(0) = 2; do 0 fuse 0 - 1; do 0 update; expect last = 0;`)
	holds(t, `do 0 create 0, 1; do 0 crash; do 0 crash; expect last = 7; do 0 say "t"; expect last = 7; do 0 start; do 0 start; expect last = 13;`)
	holds(t, `do 0 create 0, 1; do 1 fetch 0, 0; do 1 leak; do 0 say "t"; expect said() = 1 & open(0) & !open(1) & !open(-1); do 2 leak; expect last = 0; do 7 leak; expect last = 22;`)
}

func TestP32_1Calls(t *testing.T) {
	holds(t, `do 0 create 0, 1; expect nodes(0) = 1 & nodes(1) = 0 & nodes(2) = 0; expect up(0) & up(1) & up(2); expect in(0, 0) & in(0, 1) & !in(0, 2) & !in(1, 0);
		expect same(0, 0) & same(1, 2) & !same(0, 1) & !same(1, 0); expect mail(0, 1) = 1 & mail(1, 1) = 0 & mail(0, 0) = 0; calm 1; expect same(0, 1) & same(1, 0) & !same(0, 2) & nodes(0) = 2; expect said() = 0;
		do 1 say "a"; do 0 say "b"; expect said() = 2 & inbox(0) = 1 & inbox(1) = 1; calm 1; expect inbox(0) = 2 & inbox(1) = 2 & inbox(2) = 0;`)
	for _, k := range []string{"-1", "3", "8", "999999999", "1000000 * 1000000"} {
		holds(t, fmt.Sprintf("let k = %s; expect nodes(k) = 0 & held(k) = 0 & inbox(k) = 0 & up(k) = 0 & in(k, 0) = 0 & in(k, k) = 0 & same(k, k) = 0 & same(0, k) = 0 & same(k, 0) = 0 & mail(0, k) = 0 & mail(k, 0) = 0 & open(k) = 0;", k))
	}
	holds(t, "do 0 create 0, 1; let k = 2; expect mail(k, 1) = 0 & mail(3, 1) = 0 & mail(4, 1) = 0 & in(0, 7) = 0 & in(0, -1) = 0;")
	// 1 and 2 hold what 0 does last, as they lack what is ahead of it.
	holds(t, "do 0 create 0, 1, 2; do 0 update; do 0 update; do 1 fetch 0, 1; expect held(1) = 1 & nodes(1) = 0; do 1 fetch 0, 0; expect nodes(1) > 1;")
	holds(t, "do 0 create 0; do 1 create 1; expect nodes(0) = 1 & nodes(1) = 1 & !same(0, 1);")
	// Two that did the same, in another order.
	holds(t, "do 0 create 0, 1, 2; calm 3; do 1 update; do 2 update; calm 4; expect same(0, 1) & same(1, 2) & same(2, 0);")
}

func TestP32_1Control(t *testing.T) {
	for text, want := range map[string]api.Outcome{
		"":                 {},
		"calm 0; calm 20;": {Steps: 2},
		"calm 21; calm 1;": {Steps: 1, Err: api.ErrRange},
		"calm -1;":         {Steps: 1, Err: api.ErrRange},
		"expect 0; expect 1; expect -1; expect 0;":  {Steps: 4, Failed: []int{1, 4}},
		"repeat 3 { expect 0; }":                    {Steps: 4, Failed: []int{2, 3, 4}},
		"repeat 0 { expect 0; } expect 0;":          {Steps: 2, Failed: []int{2}},
		"repeat 20 { }":                             {Steps: 1},
		"repeat 21 { expect 0; }":                   {Steps: 1, Err: api.ErrRange},
		"repeat -1 { expect 0; }":                   {Steps: 1, Err: api.ErrRange},
		"repeat 2 { repeat 2 { expect 0; } }":       {Steps: 7, Failed: []int{3, 4, 6, 7}},
		"if 1 { expect 0; } else { calm 1; }":       {Steps: 2, Failed: []int{2}},
		"if -5 { expect 0; }":                       {Steps: 2, Failed: []int{2}},
		"if 0 { expect 0; } else { calm 1; }":       {Steps: 2},
		"if 0 { expect 0; } expect 0;":              {Steps: 2, Failed: []int{2}},
		"repeat 2 { expect 0; let x = y; calm 1; }": {Steps: 3, Failed: []int{2}, Err: api.ErrNone},
		"if 1 { repeat 2 { calm 50; } } expect 0;":  {Steps: 3, Err: api.ErrRange},
		"let n = 0; repeat 5 { let n = n + 1; if n = 3 { do 9 tick; } } expect n = 5;": {Steps: 14, Told: []api.Errno{api.ErrNone}},
	} {
		if got := play(t, text); !same(got, want) {
			t.Errorf("%q: %v, not %v", text, got, want)
		}
	}
}

func TestP32_1Many(t *testing.T) {
	fine := play(t, "repeat 13 { repeat 20 { expect 1; } } repeat 20 { expect 0; } calm 0; calm 0; calm 0; calm 0; calm 0;")
	if fine.Steps != 300 || len(fine.Failed) != 20 || fine.Err != api.OK {
		t.Errorf("300 steps: %v", fine)
	}
	many := play(t, "repeat 20 { repeat 20 { expect 0; } }")
	if many.Err != api.ErrMany || len(many.Failed) != 284 {
		t.Errorf("more than 300 steps: %d failed, %d", len(many.Failed), many.Err)
	}
	if out := play(t, "repeat 13 { repeat 20 { expect 1; } } repeat 20 { expect 1; } calm 0; calm 0; calm 0; calm 0; calm 0; calm 1 / 0;"); out.Err != api.ErrMany {
		t.Errorf("a step that is one too many: %v", out)
	}
}

func TestP32_2Play(t *testing.T) {
	for text, want := range map[string]struct {
		at int
		e  api.Errno
	}{
		strings.Repeat(" ", 4001): {0, api.ErrLong}, "calm 1; ?": {8, api.ErrWord}, `do 0 say "x`: {9, api.ErrOpen}, "calm 1; abcdefghijklm": {8, api.ErrMany},
		"calm 1; calm;": {12, api.ErrForm}, "calm 1; calm": {12, api.ErrForm}, "calm  ": {6, api.ErrForm}, "calm 1; # comment": {0, api.OK}, "calm 1 # comment": {16, api.ErrForm}, " } calm 1;": {1, api.ErrForm},
		"expect " + strings.Repeat("(", 25): {28, api.ErrDeep}, "expect " + strings.Repeat("(", 21): {28, api.ErrDeep}, strings.Repeat("calm 1;", 301): {2107, api.ErrMany}, strings.Repeat("calm 1;", 301) + " \n": {2109, api.ErrMany},
	} {
		out, at, e := drama.Play(place, text)
		if at != want.at || e != want.e || e != api.OK && !same(out, api.Outcome{}) {
			t.Errorf("%.60q: %d at %d, not %d at %d", text, e, at, want.e, want.at)
		}
	}
	text := `do 0 create 0, 1; calm 2; do 1 say "a"; expect 0; let x = 1 / 0;`
	tokens, _, _ := token.Cut(text)
	tree, _, _ := syntax.Parse(tokens)
	if out := play(t, text); !same(out, drama.Run(place, tree)) || out.Err != api.ErrZero || out.Steps != 5 {
		t.Errorf("%v", out)
	}
}

const long = `do 0 create 0, 1; calm 2; do 1 add 2; repeat 4 { do 0 say "a"; do 1 update; do 2 fetch 0, 0; do 1 drop 1, 0; do 2 crash; do 2 start; calm 1; %s }
	do 1 leak; do 0 remove 1; do 2 say "b"; calm 3; %s if same(0, 2) { do 0 say "c"; } else { do 2 update; }`

func TestP32_3SameOutcome(t *testing.T) {
	text := fmt.Sprintf(long, "expect inbox(2) > 100;", "expect open(0); expect open(5); expect nodes(1) = 4;")
	first := play(t, text)
	for range 3 {
		if again := play(t, text); !same(again, first) {
			t.Errorf("%v, and then %v", first, again)
		}
	}
	if first.Err != api.OK || len(first.Told) < 20 {
		t.Errorf("%v", first)
	}
}

func TestP32_4Expectations(t *testing.T) {
	with := play(t, fmt.Sprintf(long, "expect inbox(2) > 100; expect open(0) & same(0, 1);", "expect open(0) | open(3); expect in(0, 1); expect mail(0, 1) + held(2);"))
	without := play(t, fmt.Sprintf(long, "", ""))
	if with.Err != without.Err || !slices.Equal(with.Told, without.Told) || with.Steps != without.Steps+8+3 || len(without.Failed) != 0 {
		t.Errorf("%v, and without expectations %v", with, without)
	}
}
