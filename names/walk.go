package names

import (
	"slices"

	"farandole/api"
	"farandole/syntax"
)

// level is a place between the items of a block.
type level struct {
	kind   int             // the kind of the item that has the block
	name   string          // the name of that item
	blocks [][]syntax.Item // the block, and those behind it in the same item
	next   int             // the item behind the place
}

// atEnd reports whether no item of the block is behind the place.
func (v level) atEnd() bool { return v.next == len(v.blocks[0]) }

// walk checks the items of a protocol in the order of the source. The levels that are open are those of the items around, the outermost one first.
func (c *checker) walk() {
	c.open = []level{{blocks: [][]syntax.Item{c.p.Body}}}
levels:
	for len(c.open) > 0 {
		top := &c.open[len(c.open)-1]
		for ; len(top.blocks) > 0; top.blocks, top.next = top.blocks[1:], 0 {
			for !top.atEnd() {
				x := top.blocks[0][top.next]
				top.next++
				c.item(x)
				if len(x.Blocks) > 0 {
					c.open = append(c.open, level{kind: x.Kind, name: x.Name, blocks: x.Blocks})
					continue levels
				}
			}
		}
		c.open = c.open[:len(c.open)-1]
	}
}

// item checks the item ahead of the place of the innermost level.
func (c *checker) item(x syntax.Item) {
	switch x.Kind {
	case syntax.Send:
		c.roles(x)
		if !c.known[name{aMessage, x.Name}] {
			c.fail(x.Name, api.ErrName)
		}
	case syntax.Choice:
		c.roles(x)
	case syntax.Loop:
		if c.loopAround(x.Name) {
			c.fail(x.Name, api.ErrExist)
		}
	case syntax.Again:
		c.again(x.Name)
	case syntax.Call:
		c.call(x)
	}
}

// roles checks the roles that an item names.
func (c *checker) roles(x syntax.Item) {
	l := rolesOf(x)
	for i, role := range l {
		if !c.known[name{aRole, role}] || slices.Contains(l[:i], role) {
			c.fail(role, api.ErrRole)
		}
	}
}

func (c *checker) loopAround(loop string) bool {
	return slices.ContainsFunc(c.open, func(v level) bool { return v.isOf(loop) })
}

// isOf reports whether the block is that of a loop.
func (v level) isOf(loop string) bool { return v.kind == syntax.Loop && v.name == loop }

// again goes outwards from an again to its loop.
func (c *checker) again(loop string) {
	last := true
	for _, v := range slices.Backward(c.open) {
		last = last && v.atEnd()
		if v.isOf(loop) {
			if !last {
				c.fail(loop, api.ErrState)
			}
			return
		}
		if v.kind == syntax.Par {
			break
		}
	}
	c.fail(loop, api.ErrName)
}

func (c *checker) call(x syntax.Item) {
	i, ok := c.first[name{aProtocol, x.Name}]
	if !ok {
		c.fail(x.Name, api.ErrName)
	} else if len(x.To) != len(c.all[i].Roles) {
		c.fail(x.Name, api.ErrArg)
	}
	c.roles(x)
	c.declare(aCall, x.As)
}
