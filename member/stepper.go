package member

import (
	"slices"
	"strconv"

	"cabal/api"
	"cabal/deep"
	"cabal/frame"
	"cabal/graph"
	"cabal/queue"
	"cabal/ratchet"
	"cabal/roster"
	"cabal/suite"
)

// stepper is a member that is stepped: a kit, its state, and what it posts. Lists in its state are replaced, never changed, so that a copy of it is what it was.
type stepper struct {
	suite.Kit
	api.Member
	posts []api.Post
}

func (s *stepper) step(in api.Input) api.Errno {
	switch in.Kind {
	case api.InCreate, api.InAdd, api.InRemove, api.InUpdate, api.InSay:
		return s.act(in)
	case api.InTake:
		return s.take(in.Frame)
	case api.InTick:
		s.tick()
		return api.OK
	}
	return api.ErrArg
}

// act composes the operation that an input asks for.
func (s *stepper) act(in api.Input) api.Errno {
	if slices.ContainsFunc(in.Who, func(who int) bool { return who < 0 || who >= s.Members }) {
		return api.ErrArg
	}
	switch in.Kind {
	case api.InCreate:
		return s.compose(draft{kind: api.OpCreate, who: in.Who})
	case api.InAdd:
		return s.compose(draft{kind: api.OpAdd, who: in.Who})
	case api.InRemove:
		return s.compose(draft{kind: api.OpRemove, who: in.Who})
	case api.InUpdate:
		return s.compose(draft{kind: api.OpUpdate})
	}
	return s.compose(draft{kind: api.OpSay, text: in.Text})
}

// take takes a frame that came.
func (s *stepper) take(f api.Frame) api.Errno {
	if _, e := frame.Write(f); e != api.OK || f.From == s.Me || f.From >= s.Members {
		return api.ErrArg
	}
	switch f.Kind {
	case api.FrameOp:
		return s.takeOp(f.Op)
	case api.FrameHave:
		var missing []api.Key
		for _, id := range f.Ids {
			if _, ok := s.find(id); !ok {
				missing = append(missing, id)
			}
		}
		if len(missing) > 0 {
			s.post(api.Frame{Kind: api.FrameWant, Ids: missing}, f.From)
		}
	case api.FrameWant:
		for _, id := range f.Ids {
			if o, ok := s.find(id); ok {
				s.post(api.Frame{Kind: api.FrameOp, Op: o}, f.From)
			}
		}
	}
	return api.OK
}

// takeOp holds an operation that came, and proceeds.
func (s *stepper) takeOp(o api.Op) api.Errno {
	id := frame.Name(s, o)
	if _, ok := s.find(id); ok {
		return api.ErrOld
	}
	if o.Author >= s.Members {
		return api.ErrArg
	}
	if o.Author == s.Me {
		return api.ErrStranger
	}
	h := api.Held{Id: id, Op: o}
	if b, ok := boxFor(o, s.Me); ok {
		session, got, e := ratchet.Receive(s, s.Sessions[o.Author], b.Head, id, b.Body)
		if e != api.OK {
			return e
		}
		s.Sessions[o.Author], h.Got = session, got
	} else if !slices.Contains(queue.Wanted(s.Nodes, s.Held), id) {
		return api.ErrStranger
	}
	held, e := queue.Put(s.Held, h)
	if e != api.OK {
		return e
	}
	s.Held = held
	s.proceed()
	return api.OK
}

// tick tells others what there is, and asks for what is missing.
func (s *stepper) tick() {
	others := s.others()
	if len(s.Nodes) > 0 {
		s.post(api.Frame{Kind: api.FrameHave, Ids: graph.Heads(s.Nodes)}, others...)
	}
	if wanted := queue.Wanted(s.Nodes, s.Held); len(wanted) > 0 {
		s.post(api.Frame{Kind: api.FrameWant, Ids: wanted[:min(len(wanted), api.MaxIds)]}, others...)
	}
}

// others are the roster and the authors of what is held, but not the member itself.
func (s *stepper) others() []int {
	l := roster.All(s.Nodes)
	for _, h := range s.Held {
		l = append(l, h.Op.Author)
	}
	slices.Sort(l)
	return slices.DeleteFunc(slices.Compact(l), func(who int) bool { return who == s.Me })
}

// post posts a frame of the member to some others, to each a copy of its own.
func (s *stepper) post(f api.Frame, to ...int) {
	f.From = s.Me
	for _, who := range to {
		s.posts = append(s.posts, api.Post{To: who, Frame: deep.Frame(f)})
	}
}

// find is an operation that is among the nodes or held.
func (s *stepper) find(id api.Key) (api.Op, bool) {
	if at := graph.Find(s.Nodes, id); at >= 0 {
		return s.Nodes[at].Op, true
	}
	if at := queue.Find(s.Held, id); at >= 0 {
		return s.Held[at].Op, true
	}
	return api.Op{}, false
}

// name draws a name for a text.
func (s *stepper) name(text string) string {
	s.Draws++
	return text + " " + strconv.Itoa(s.Me) + " " + strconv.FormatUint(uint64(s.Draws), 10)
}

// boxFor is an operation's box for somebody.
func boxFor(o api.Op, to int) (api.Box, bool) {
	at := slices.IndexFunc(o.Boxes, func(b api.Box) bool { return b.To == to })
	if at < 0 {
		return api.Box{}, false
	}
	return o.Boxes[at], true
}
