package drama

import (
	"slices"

	"cabal/api"
	"cabal/graph"
	"cabal/roster"
)

// values are those of some expressions, in order.
func (s *stage) values(l []api.Expr) ([]int64, api.Errno) {
	var out []int64
	for _, x := range l {
		n, e := s.value(x)
		if e != api.OK {
			return nil, e
		}
		out = append(out, n)
	}
	return out, api.OK
}

func (s *stage) value(x api.Expr) (int64, api.Errno) {
	kids, e := s.values(x.Kids)
	if e != api.OK {
		return 0, e
	}
	n, e := s.outer(x, kids)
	if e == api.OK && (n > api.MaxValue || n < -api.MaxValue) {
		e = api.ErrRange
	}
	return n, e
}

// outer is the value of an expression whose parts have these values.
func (s *stage) outer(x api.Expr, kids []int64) (int64, api.Errno) {
	switch x.Kind {
	case api.ExNumber:
		if len(kids) == 0 {
			return int64(x.N), api.OK
		}
	case api.ExName:
		n, known := s.names[x.Text]
		if !known {
			return 0, api.ErrNone
		}
		if len(kids) == 0 {
			return n, api.OK
		}
	case api.ExCall:
		if q, known := questions()[x.Text]; known && len(kids) == q.kids {
			return q.answer(s, kids), api.OK
		}
	case api.ExNot:
		if len(kids) == 1 {
			return truth(kids[0] == 0), api.OK
		}
	case api.ExMinus:
		if len(kids) == 1 {
			return -kids[0], api.OK
		}
	case api.ExTwo:
		if len(kids) == 2 {
			return operated(x.Text, kids[0], kids[1])
		}
	}
	return 0, api.ErrArg
}

// operated is what an operator makes of two values.
func operated(operator string, a, b int64) (int64, api.Errno) {
	switch operator {
	case "+":
		return a + b, api.OK
	case "-":
		return a - b, api.OK
	case "*":
		if a != 0 && size(b) > api.MaxValue/size(a) {
			return 0, api.ErrRange
		}
		return a * b, api.OK
	case "/", "%":
		if b == 0 {
			return 0, api.ErrZero
		}
		if operator == "/" {
			return a / b, api.OK
		}
		return a % b, api.OK
	case "=":
		return truth(a == b), api.OK
	case "<":
		return truth(a < b), api.OK
	case ">":
		return truth(a > b), api.OK
	case "&":
		return truth(a != 0 && b != 0), api.OK
	case "|":
		return truth(a != 0 || b != 0), api.OK
	}
	return 0, api.ErrArg
}

func size(n int64) int64 { return max(n, -n) }

func truth(b bool) int64 {
	if b {
		return 1
	}
	return 0
}

// question is what a scene can ask of the world: so many numbers stand behind its name.
type question struct {
	kids   int
	answer func(s *stage, kids []int64) int64
}

func questions() map[string]question {
	return map[string]question{
		"nodes": {1, func(s *stage, k []int64) int64 { return int64(len(s.member(k[0]).Nodes)) }},
		"held":  {1, func(s *stage, k []int64) int64 { return int64(len(s.member(k[0]).Held)) }},
		"inbox": {1, func(s *stage, k []int64) int64 { return int64(len(s.member(k[0]).Inbox)) }},
		"up":    {1, (*stage).up},
		"in":    {2, (*stage).in},
		"same":  {2, (*stage).same},
		"mail":  {2, (*stage).mail},
		"said":  {0, func(s *stage, _ []int64) int64 { return int64(len(s.Said())) }},
		"open":  {1, (*stage).open},
	}
}

func (s *stage) has(who int64) bool { return who >= 0 && who < int64(s.members) }

// member is what a member has; one who does not exist has nothing.
func (s *stage) member(who int64) api.Member {
	if !s.has(who) {
		return api.Member{}
	}
	m, _ := s.Member(int(who))
	return m
}

func (s *stage) up(k []int64) int64 {
	if !s.has(k[0]) {
		return 0
	}
	_, up := s.Member(int(k[0]))
	return truth(up)
}

func (s *stage) in(k []int64) int64 {
	group := roster.All(s.member(k[0]).Nodes)
	return truth(s.has(k[1]) && slices.Contains(group, int(k[1])))
}

func (s *stage) same(k []int64) int64 {
	if !s.has(k[0]) || !s.has(k[1]) {
		return 0
	}
	a, b := s.member(k[0]).Nodes, s.member(k[1]).Nodes
	lacks := func(n api.Node) bool { return graph.Find(b, n.Id) < 0 }
	return truth(len(a) == len(b) && !slices.ContainsFunc(a, lacks))
}

func (s *stage) mail(k []int64) int64 {
	if k[0] < 0 || k[0] >= api.MaxRelays || !s.has(k[1]) {
		return 0
	}
	return int64(len(s.Mail(int(k[0]), int(k[1]))))
}

// open says whether the stranger can derive the key of a message that was sent.
func (s *stage) open(k []int64) int64 {
	said, composed := s.Said(), s.Composed()
	if k[0] < 0 || k[0] >= int64(len(said)) {
		return 0
	}
	at := graph.Find(composed, said[k[0]].Id)
	if at < 0 {
		return 0
	}
	var box api.Key
	copy(box[:], composed[at].Op.Text)
	seal := s.Free().Look(box)
	return truth(seal.Kind == api.Seal && s.Follows()(seal.Keys[0]))
}
