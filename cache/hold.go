package cache

import "sacristan/api"

// has is whether there is such a block.
func (c *Cache) has(at int) bool { return at >= 0 && at < c.Blocks() }

// hold has b at hand for a block, as the newest one. There has to be room, or it is held already.
func (c *Cache) hold(at int, b *kept) {
	c.held[at] = b
	c.ages.renew(at)
}

// fetch tells what the memory has of a block that is not held, once there is room to hold it.
func (c *Cache) fetch(at int) ([]byte, api.Errno) {
	if !c.has(at) {
		return nil, api.ErrArg
	}
	if e := c.makeRoom(); e != api.OK {
		return nil, e
	}
	return c.memory.Read(at)
}

// makeRoom lets the oldest go, till there is room for one more. One that cannot be written stays: nobody else has what
// was put there.
func (c *Cache) makeRoom() api.Errno {
	e := api.OK
making:
	for len(c.held) >= c.room {
		at := c.ages.oldest()
		switch e = c.clean(at); e {
		case api.OK:
			c.ages.drop(at)
			delete(c.held, at)
		default:
			break making
		}
	}
	return e
}

// clean writes a block that is held to the memory, if it is dirty.
func (c *Cache) clean(at int) api.Errno {
	b := c.held[at]
	if !b.dirty {
		return api.OK
	}
	e := c.memory.Write(at, b.body)
	b.dirty = e != api.OK
	return e
}
