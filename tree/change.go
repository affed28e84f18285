package tree

import (
	"slices"

	"cashbook/api"
	"cashbook/node"
)

// change is what becomes of a tree whose walk's leaf was changed. Until nothing can go wrong any more, new pages are made, and nothing else is done, so that these are all that is to be given back.
type change struct {
	*walk
	fresh []uint32 // those that were fresh ahead of it, rising
	made  []uint32
	spare []uint32  // of those that were fresh, the ones in which nothing stands any more
	gone  []uint32  // of the others, the ones in which nothing stands any more
	laid  []content // what spare ones are to say
}

// content is what a page says.
type content struct {
	page uint32
	kind byte
	body []byte
}

// finish makes the tree one whose leaf is as the walk's has become.
func (w *walk) finish() api.Errno {
	c := &change{walk: w, fresh: w.pager.Fresh()}
	// All at once: what is fresh at any level may save a page at any other one.
	for _, s := range w.steps {
		c.leave(s.page)
	}
	if err := c.rise(); err != api.OK {
		c.undo()
		return err
	}
	c.keep()
	return api.OK
}

// undo gives back what was made.
func (c *change) undo() {
	for _, n := range c.made {
		c.pager.Drop(n)
	}
}

// keep does what can't go wrong any more.
func (c *change) keep() {
	for _, l := range c.laid {
		c.pager.Put(l.page, l.kind, l.body)
	}
	for _, n := range slices.Concat(c.spare, c.gone) {
		c.pager.Drop(n)
	}
	c.pager.SetRoot(c.tree, c.root)
}

// rise lays the nodes of the way, from the leaf up.
func (c *change) rise() api.Errno {
	for i := len(c.steps) - 1; i > 1; i-- {
		if err := c.below(&c.steps[i-1], c.steps[i]); err != api.OK {
			return err
		}
	}
	return c.first(c.steps[1])
}

// below lays a node that isn't the first one; if it is too small, as one with the node beside it.
func (c *change) below(up *step, s step) api.Errno {
	size, most := c.size(s.node)
	if size >= most/2 {
		return c.replace(&up.node, up.place, up.place+1, s.node)
	}
	from, n, err := c.joined(up, s.node)
	if err != api.OK {
		return err
	}
	return c.replace(&up.node, from, from+2, n)
}

// first lays the first node, if there is one still, and one above it, if it is cut in two.
func (c *change) first(s step) api.Errno {
	switch size, _ := c.size(s.node); {
	case s.node.Leaf && size == 0:
		c.root = api.Root{}
		return api.OK
	case !s.node.Leaf && size == 1:
		c.root.Page = s.node.Kids[0]
		c.root.Height--
		return api.OK
	}
	top := c.steps[0].node
	if err := c.replace(&top, 0, 1, s.node); err != api.OK {
		return err
	}
	c.root.Page = top.Kids[0]
	if len(top.Kids) == 1 {
		return api.OK
	}
	page, err := c.lay(top)
	c.root.Page = page
	c.root.Height++
	return err
}

// joined is a node that is too small as one with the node beside it, and which kid the first of these two is.
func (c *change) joined(up *step, n api.Node) (int, api.Node, api.Errno) {
	if up.place == 0 {
		second, err := c.take(up.node.Kids[1], n.Leaf)
		return 0, join(n, up.node.Keys[0], second), err
	}
	at := up.place - 1
	first, err := c.take(up.node.Kids[at], n.Leaf)
	return at, join(first, up.node.Keys[at], n), err
}

// take reads a node, and leaves its page.
func (c *change) take(page uint32, leaf bool) (api.Node, api.Errno) {
	c.leave(page)
	return c.read(page, leaf)
}

// replace lays a node, if it is too great as two, in place of an inner node's kids from one to ahead of another one.
func (c *change) replace(up *api.Node, from, to int, n api.Node) api.Errno {
	parts, between := c.parts(n)
	var pages []uint32
	for _, part := range parts {
		page, err := c.lay(part)
		if err != api.OK {
			return err
		}
		pages = append(pages, page)
	}
	up.Kids = slices.Replace(up.Kids, from, to, pages...)
	up.Keys = slices.Replace(up.Keys, from, to-1, between...)
	return api.OK
}

// parts are a node, or, if it is too great, its halves; and what stands between them.
func (c *change) parts(n api.Node) ([]api.Node, [][]byte) {
	if size, most := c.size(n); size <= most {
		return []api.Node{n}, nil
	}
	first, between, second := halves(n)
	return []api.Node{first, second}, [][]byte{between}
}

// leave says that nothing stands in a page any more.
func (c *change) leave(page uint32) {
	if _, fresh := slices.BinarySearch(c.fresh, page); fresh {
		c.spare = append(c.spare, page)
	} else if page != noPage {
		c.gone = append(c.gone, page)
	}
}

// lay is a page for a node: a spare one, or a new one.
func (c *change) lay(n api.Node) (uint32, api.Errno) {
	kind, body, err := node.Write(n, c.key, c.value)
	if err != api.OK {
		return 0, api.ErrForm // What is made of right trees' nodes is right.
	}
	if last := len(c.spare) - 1; last >= 0 {
		page := c.spare[last]
		c.spare = c.spare[:last]
		c.laid = append(c.laid, content{page, kind, body})
		return page, api.OK
	}
	page, err := c.pager.Make(kind, body)
	if err == api.OK {
		c.made = append(c.made, page)
	}
	return page, err
}

// halves are a node's first half, which has one more if it can't be cut evenly, and its second one; and what stands between them.
func halves(n api.Node) (api.Node, []byte, api.Node) {
	if n.Leaf {
		at := (len(n.Keys) + 1) / 2
		first := api.Node{Leaf: true, Keys: n.Keys[:at:at], Values: n.Values[:at:at]}
		return first, n.Keys[at], api.Node{Leaf: true, Keys: n.Keys[at:], Values: n.Values[at:]}
	}
	at := (len(n.Kids) + 1) / 2
	first := api.Node{Keys: n.Keys[: at-1 : at-1], Kids: n.Kids[:at:at]}
	return first, n.Keys[at-1], api.Node{Keys: n.Keys[at:], Kids: n.Kids[at:]}
}

// join is two nodes as one, with what stands between them.
func join(first api.Node, between []byte, second api.Node) api.Node {
	if first.Leaf {
		return api.Node{Leaf: true, Keys: slices.Concat(first.Keys, second.Keys), Values: slices.Concat(first.Values, second.Values)}
	}
	keys := slices.Concat(first.Keys, [][]byte{between}, second.Keys)
	return api.Node{Keys: keys, Kids: slices.Concat(first.Kids, second.Kids)}
}
