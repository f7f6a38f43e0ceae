package sound

import (
	"slices"

	"gangsaw/api"
	"gangsaw/box"
	"gangsaw/model"
	"gangsaw/prism"
)

// rock is what concerns a box of rock, apart from beds and joints: flaws and evidence. Without evidence nothing in it is sound.
type rock struct {
	flaws []api.Flaw
	list  []api.Evidence
}

// within returns what concerns a part of the rock.
func (r rock) within(b api.Box) rock {
	var part rock
	for _, f := range r.flaws {
		// The errors are about prisms and boxes that are not valid.
		if overlaps, _ := prism.Overlaps(f.Prism, b); !overlaps {
			continue
		}
		if covers, _ := prism.Covers(f.Prism, b); covers {
			return rock{}
		}
		part.flaws = append(part.flaws, f)
	}
	covers := func(v api.Evidence) bool { return box.Inside(b, v.Box) }
	whole := slices.IndexFunc(r.list, func(v api.Evidence) bool { return v.State == api.Sound && covers(v) })
	for i, v := range r.list {
		if v.State == api.Flawed && covers(v) {
			return rock{}
		}
		// Of all those that say the same, one that says it of the whole part is enough.
		if repeats := v.State == api.Sound && whole >= 0 && i != whole; !repeats && box.Overlap(v.Box, b) {
			part.list = append(part.list, v)
		}
	}
	return part
}

// isSound reports whether the box of the rock is sound, if no bed and no joint passes through it.
func (r rock) isSound(b api.Box) bool {
	all, _ := model.All(r.list, b, api.Sound)
	return all && len(r.flaws) == 0
}
