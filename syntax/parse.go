// Package syntax is layer 31: tokens as a scene's statements. See shared/doc/31-syntax.md.
package syntax

import (
	"strings"

	"cabal/api"
)

// Parse is the tree of tokens.
func Parse(l []api.Token) ([]api.Stmt, int, api.Errno) {
	p := parser{tokens: l}
	scene := p.statements()
	if p.at < len(l) {
		p.fail(api.ErrForm)
	}
	if p.err != api.OK {
		return nil, p.at, p.err
	}
	if p.parts > api.MaxParts {
		return nil, len(l), api.ErrMany
	}
	return scene, 0, api.OK
}

// parser reads tokens. It stays at the first one with which something is wrong: from then on all that it reads is empty.
type parser struct {
	tokens       []api.Token
	at           int
	depth, parts int
	err          api.Errno
}

func (p *parser) fail(e api.Errno) {
	if p.err == api.OK {
		p.err = e
	}
}

// peek is the token that is to be read; at the end, and where something is wrong, it is one of no kind.
func (p *parser) peek() api.Token {
	if p.err != api.OK || p.at >= len(p.tokens) {
		return api.Token{}
	}
	return p.tokens[p.at]
}

func (p *parser) is(kind int, text string) bool {
	t := p.peek()
	return t.Kind == kind && t.Text == text
}

// skip reads a token if it is this one.
func (p *parser) skip(kind int, text string) bool {
	if !p.is(kind, text) {
		return false
	}
	p.at++
	return true
}

// need reads a sign that must be there.
func (p *parser) need(sign string) {
	if !p.skip(api.TokSign, sign) {
		p.fail(api.ErrForm)
	}
}

// needText reads a token of a kind that must be there, and that may be what it says.
func (p *parser) needText(kind int, may func(text string) bool) string {
	t := p.peek()
	if t.Kind != kind || !may(t.Text) {
		p.fail(api.ErrForm)
		return ""
	}
	p.at++
	return t.Text
}

// deeper reads what a rule reads, one level below.
func deeper[T any](p *parser, rule func() T) T {
	var x T
	p.depth++
	if p.depth > api.MaxDeep {
		p.fail(api.ErrDeep)
	} else {
		x = rule()
	}
	p.depth--
	return x
}

func (p *parser) statements() []api.Stmt {
	var l []api.Stmt
	for kind := p.kind(); kind != 0; kind = p.kind() {
		l = append(l, p.statement(kind))
	}
	return l
}

// kind is that of the statement that begins here; 0: none does.
func (p *parser) kind() int {
	t := p.peek()
	if t.Kind != api.TokName {
		return 0
	}
	switch t.Text {
	case "let":
		return api.StLet
	case "do":
		return api.StDo
	case "calm":
		return api.StCalm
	case "expect":
		return api.StExpect
	case "repeat":
		return api.StRepeat
	case "if":
		return api.StIf
	}
	return 0
}

func (p *parser) statement(kind int) api.Stmt {
	p.parts++
	s := api.Stmt{Kind: kind, Verb: p.peek().Text}
	p.at++
	if kind == api.StLet {
		s.Text = p.needText(api.TokName, isFree)
		p.need("=")
	}
	s.Exprs = []api.Expr{p.expr()}
	switch kind {
	case api.StRepeat:
		s.Body = p.block()
		return s
	case api.StIf:
		s.Body = p.block()
		if p.skip(api.TokName, "else") {
			s.Else = p.block()
		}
		return s
	case api.StDo:
		p.verb(&s)
	}
	p.need(";")
	return s
}

func (p *parser) block() []api.Stmt {
	if !p.is(api.TokSign, "{") {
		p.fail(api.ErrForm)
		return nil
	}
	return deeper(p, func() []api.Stmt {
		p.need("{")
		l := p.statements()
		p.need("}")
		return l
	})
}

// needs are the words that a verb requires: so many expressions, or that many at least, or a text.
type needs struct {
	exprs      int
	more, text bool
}

func verbs() map[string]needs {
	return map[string]needs{
		"create": {exprs: 1, more: true},
		"add":    {exprs: 1},
		"remove": {exprs: 1},
		"fuse":   {exprs: 1},
		"say":    {text: true},
		"update": {},
		"tick":   {},
		"crash":  {},
		"start":  {},
		"leak":   {},
		"fetch":  {exprs: 2},
		"drop":   {exprs: 2},
		"double": {exprs: 2},
		"move":   {exprs: 2},
	}
}

func (p *parser) verb(s *api.Stmt) {
	all := verbs()
	s.Verb = p.needText(api.TokName, func(text string) bool {
		_, known := all[text]
		return known
	})
	required := all[s.Verb]
	for i := range required.exprs {
		if i > 0 {
			p.need(",")
		}
		s.Exprs = append(s.Exprs, p.expr())
	}
	for required.more && p.skip(api.TokSign, ",") {
		s.Exprs = append(s.Exprs, p.expr())
	}
	if required.text {
		s.Text = p.needText(api.TokText, func(string) bool { return true })
	}
}

// isFree says whether a name is no word of the language.
func isFree(name string) bool {
	switch name {
	case "let", "do", "calm", "expect", "repeat", "if", "else":
		return false
	}
	return true
}

// operated reads what a rule reads, with operators of one kind between: at most so many of them, or any number (-1).
func (p *parser) operated(signs string, most int, rule func() api.Expr) api.Expr {
	x := rule()
	for n := 0; n != most; n++ {
		t := p.peek()
		if t.Kind != api.TokSign || len(t.Text) != 1 || !strings.Contains(signs, t.Text) {
			break
		}
		p.at++
		x = p.part(api.Expr{Kind: api.ExTwo, Text: t.Text, Kids: []api.Expr{x, rule()}})
	}
	return x
}

// part counts an expression.
func (p *parser) part(x api.Expr) api.Expr {
	p.parts++
	return x
}

func (p *parser) expr() api.Expr {
	term := func() api.Expr { return p.operated("*/%", -1, p.sign) }
	sum := func() api.Expr { return p.operated("+-", -1, term) }
	order := func() api.Expr { return p.operated("=<>", 1, sum) }
	and := func() api.Expr { return p.operated("&", -1, order) }
	return p.operated("|", -1, and)
}

func (p *parser) sign() api.Expr {
	switch {
	case p.skip(api.TokSign, "!"):
		return p.part(api.Expr{Kind: api.ExNot, Kids: []api.Expr{deeper(p, p.sign)}})
	case p.skip(api.TokSign, "-"):
		return p.part(api.Expr{Kind: api.ExMinus, Kids: []api.Expr{deeper(p, p.sign)}})
	}
	return p.single()
}

func (p *parser) single() api.Expr {
	t := p.peek()
	switch {
	case t.Kind == api.TokNumber:
		p.at++
		return p.part(api.Expr{Kind: api.ExNumber, N: t.N})
	case t.Kind == api.TokName && isFree(t.Text):
		p.at++
		if p.skip(api.TokSign, "(") {
			return p.part(api.Expr{Kind: api.ExCall, Text: t.Text, Kids: p.arguments()})
		}
		return p.part(api.Expr{Kind: api.ExName, Text: t.Text})
	case p.skip(api.TokSign, "("):
		x := deeper(p, p.expr)
		p.need(")")
		return x
	}
	p.fail(api.ErrForm)
	return api.Expr{}
}

// arguments are a call's, up to the closing parenthesis.
func (p *parser) arguments() []api.Expr {
	var l []api.Expr
	if p.skip(api.TokSign, ")") {
		return l
	}
	l = append(l, deeper(p, p.expr))
	for p.skip(api.TokSign, ",") {
		l = append(l, deeper(p, p.expr))
	}
	p.need(")")
	return l
}
