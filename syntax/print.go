package syntax

import (
	"strconv"
	"strings"

	"cabal/api"
)

// Print is a tree as text.
func Print(l []api.Stmt) string {
	var p printer
	p.statements(l)
	return p.String()
}

// printer gathers a text.
type printer struct{ strings.Builder }

func (p *printer) statements(l []api.Stmt) {
	for _, s := range l {
		p.WriteString(" ")
		p.statement(s)
	}
}

func (p *printer) statement(s api.Stmt) {
	var first, rest []api.Expr
	if len(s.Exprs) > 0 {
		first, rest = s.Exprs[:1], s.Exprs[1:]
	}
	switch s.Kind {
	case api.StLet:
		p.WriteString("let " + s.Text + " = ")
		p.exprs(first)
		p.WriteString(";")
	case api.StDo:
		p.WriteString("do ")
		p.exprs(first)
		p.WriteString(" " + s.Verb)
		if s.Verb == "say" {
			p.WriteString(" " + quoted(s.Text))
		} else if len(rest) > 0 {
			p.WriteString(" ")
			p.exprs(rest)
		}
		p.WriteString(";")
	case api.StRepeat, api.StIf:
		p.WriteString(s.Verb + " ")
		p.exprs(first)
		p.block(s.Body)
		if len(s.Else) > 0 {
			p.WriteString(" else")
			p.block(s.Else)
		}
	default:
		p.WriteString(s.Verb + " ")
		p.exprs(first)
		p.WriteString(";")
	}
}

func (p *printer) block(l []api.Stmt) {
	p.WriteString(" {")
	p.statements(l)
	p.WriteString(" }")
}

// exprs prints a list of expressions.
func (p *printer) exprs(l []api.Expr) {
	for i, x := range l {
		if i > 0 {
			p.WriteString(", ")
		}
		p.expr(x)
	}
}

func (p *printer) expr(x api.Expr) {
	switch x.Kind {
	case api.ExNumber:
		p.WriteString(strconv.Itoa(x.N))
	case api.ExName:
		p.WriteString(x.Text)
	case api.ExCall:
		p.WriteString(x.Text + "(")
		p.exprs(x.Kids)
		p.WriteString(")")
	case api.ExNot:
		p.operated("! ", "", x.Kids)
	case api.ExMinus:
		p.operated("- ", "", x.Kids)
	case api.ExTwo:
		p.operated("", " "+x.Text+" ", x.Kids)
	}
}

// operated prints what an operator stands ahead of, or between, in parentheses.
func (p *printer) operated(ahead, between string, kids []api.Expr) {
	p.WriteString("(" + ahead)
	for i, x := range kids {
		if i > 0 {
			p.WriteString(between)
		}
		p.expr(x)
	}
	p.WriteString(")")
}

// quoted is a text token that stands for a text.
func quoted(text string) string {
	const digits = "0123456789abcdef"
	var b strings.Builder
	for _, c := range []byte(text) {
		switch {
		case c == '"' || c == '\\':
			b.WriteString(`\` + string([]byte{c}))
		case c < 0x20 || c > 0x7e:
			b.WriteString(`\x` + string([]byte{digits[c>>4], digits[c&15]}))
		default:
			b.WriteByte(c)
		}
	}
	return `"` + b.String() + `"`
}
