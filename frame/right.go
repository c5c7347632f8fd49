package frame

import (
	"bytes"
	"cmp"
	"slices"

	"cabal/api"
)

// row is a list of what has an order.
type row[T any] struct {
	list  []T
	order func(a, b T) int
}

// rises says whether each element is greater than the one ahead of it.
func (r row[T]) rises() bool {
	for i := 1; i < len(r.list); i++ {
		if r.order(r.list[i-1], r.list[i]) >= 0 {
			return false
		}
	}
	return true
}

// Right says whether an operation may be.
func Right(o api.Op) bool {
	return o.Kind >= api.OpCreate && o.Kind <= api.OpSay && isMember(o.Author) &&
		rightPlace(o) && rightWho(o) && rightKeys(o) && rightText(o) && rightBoxes(o)
}

// rightPlace says whether an operation's number and parents go with its kind.
func rightPlace(o api.Op) bool {
	if o.Kind == api.OpCreate {
		return o.Seq == 1 && len(o.Parents) == 0
	}
	return o.Seq != 0 && len(o.Parents) > 0 && len(o.Parents) <= api.MaxParents &&
		row[api.Key]{o.Parents, func(a, b api.Key) int { return bytes.Compare(a[:], b[:]) }}.rises()
}

func rightWho(o api.Op) bool {
	switch o.Kind {
	case api.OpCreate:
		return allMembers(o.Who) && slices.Contains(o.Who, o.Author)
	case api.OpAdd, api.OpRemove:
		return len(o.Who) == 1 && allMembers(o.Who) && !slices.Contains(o.Who, o.Author)
	}
	return len(o.Who) == 0
}

func rightKeys(o api.Op) bool {
	none := api.Key{}
	acknowledges := o.Kind == api.OpAck || o.Kind == api.OpAddAck
	return (o.Of != none) == acknowledges && (o.Check == none) == (o.Kind == api.OpSay)
}

func rightText(o api.Op) bool {
	if o.Kind == api.OpSay {
		return len(o.Text) > 0 && len(o.Text) <= api.MaxBody
	}
	return o.Text == ""
}

func rightBoxes(o api.Op) bool {
	for _, b := range o.Boxes {
		if !isMember(b.To) || b.To == o.Author || len(b.Body) > api.MaxBody {
			return false
		}
	}
	return row[api.Box]{o.Boxes, func(a, b api.Box) int { return cmp.Compare(a.To, b.To) }}.rises()
}

// rightFrame says whether a frame may be.
func rightFrame(f api.Frame) bool {
	switch {
	case !isMember(f.From):
		return false
	case f.Kind == api.FrameOp:
		return Right(f.Op) && len(f.Ids) == 0
	case f.Kind == api.FrameHave, f.Kind == api.FrameWant:
		return sameOp(f.Op, api.Op{}) && len(f.Ids) <= api.MaxIds
	}
	return false
}

// allMembers says whether a list has only members, in order and each once; there are no more than MaxMembers, then.
func allMembers(l []int) bool {
	for _, who := range l {
		if !isMember(who) {
			return false
		}
	}
	return row[int]{l, cmp.Compare[int]}.rises()
}

func isMember(who int) bool { return who >= 0 && who < api.MaxMembers }
