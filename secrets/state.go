package secrets

import (
	"slices"
	"strconv"

	"cabal/api"
	"cabal/deep"
	"cabal/frame"
	"cabal/suite"
)

// state is what a member knows of keys while it takes an operation, and the kit by which it does.
type state struct {
	suite.Kit
	api.Keys
	me    int
	id    api.Key
	o, of api.Op
	got   []api.Key
}

func begin(k suite.Kit, s api.Keys, me int, o, of api.Op, got []api.Key) (*state, api.Errno) {
	if !frame.Right(o) || !isMember(me) {
		return nil, api.ErrArg
	}
	return &state{Kit: k, Keys: deep.Keys(s), me: me, o: o, of: of, got: got}, api.OK
}

// handlers are what operations do to those whom they are addressed to, by kind.
func handlers() [api.OpSay + 1]func(*state) api.Errno {
	return [...]func(*state) api.Errno{
		api.OpCreate: (*state).create,
		api.OpAdd:    (*state).add,
		api.OpRemove: (*state).update,
		api.OpUpdate: (*state).update,
		api.OpAck:    (*state).ack,
		api.OpAddAck: (*state).addAck,
		api.OpSay:    (*state).mustKnow,
	}
}

// take does what the operation does, but for the look at its check.
func (s *state) take() api.Errno {
	if !addressed(s.o, s.me) {
		*s.author() = api.Ratchet{Lost: true}
		return api.OK
	}
	return handlers()[s.o.Kind](s)
}

// checked says whether the operation has a check that the member can tell.
func (s *state) checked() bool { return addressed(s.o, s.me) && s.o.Kind != api.OpSay }

func (s *state) check() api.Key { return s.Hash("check", s.author().Chain) }

func (s *state) author() *api.Ratchet { return &s.Ratchets[s.o.Author] }

func (s *state) mustKnow() api.Errno {
	if !s.author().Known {
		return api.ErrKeys
	}
	return api.OK
}

// advance advances the author's ratchet by a secret.
func (s *state) advance(secret api.Key) {
	r := s.author()
	r.Chain, r.Key = suite.Two(s.Kit, "ratchet", r.Key, secret)
}

// learn takes the author's ratchet from what was received.
func (s *state) learn() api.Errno {
	if len(s.got) != 1 {
		return api.ErrKeys
	}
	*s.author() = api.Ratchet{Known: true, Key: s.got[0]}
	return api.OK
}

func (s *state) create() api.Errno {
	for _, who := range s.o.Who {
		s.Ratchets[who] = api.Ratchet{Known: true}
	}
	return s.seed()
}

func (s *state) update() api.Errno {
	if e := s.mustKnow(); e != api.OK {
		return e
	}
	return s.seed()
}

// seed makes the secrets that all others wait with, and the author's own one, of one seed.
func (s *state) seed() api.Errno {
	if len(s.got) != 1 {
		return api.ErrKeys
	}
	seed := s.got[0]
	for _, b := range s.o.Boxes {
		s.wait(b.To, s.Hash("member "+strconv.Itoa(b.To), seed))
	}
	s.advance(s.Hash("sender", seed))
	return api.OK
}

// wait keeps a member's secret of the operation.
func (s *state) wait(who int, secret api.Key) {
	s.Waits = append(s.Waits, api.Wait{Of: s.id, Who: who, Key: secret})
}

func (s *state) add() api.Errno {
	added := s.o.Who[0]
	if e := s.meet(added == s.me); e != api.OK {
		return e
	}
	if r := &s.Ratchets[added]; !r.Lost {
		r.Known = true
	}
	s.advance(s.Hash("welcome"))
	s.wait(added, s.author().Chain)
	s.advance(s.Hash("add"))
	return api.OK
}

// meet is how somebody who is new learns the author's ratchet, that all others know.
func (s *state) meet(fresh bool) api.Errno {
	if fresh {
		return s.learn()
	}
	return s.mustKnow()
}

func (s *state) ack() api.Errno {
	if e := s.mustKnow(); e != api.OK {
		return e
	}
	wait, at := findWait(s.Keys, s.o.Of, s.o.Author)
	switch {
	case at >= 0:
		s.Waits = slices.Delete(s.Waits, at, at+1)
		s.advance(wait.Key)
	case len(s.got) == 1:
		s.advance(s.got[0])
	default:
		return api.ErrKeys
	}
	return api.OK
}

func (s *state) addAck() api.Errno {
	if e := s.meet(adds(s.of, s.me)); e != api.OK {
		return e
	}
	s.advance(s.Hash("add"))
	return api.OK
}
