package world

// mostPower is what power may be armed with.
const mostPower = 1000000

// power is what bytes and Bumps take. One of noughts is not armed: it lasts for ever.
type power struct {
	limited bool
	lost    bool
	left    int
}

// armed is power for n things.
func armed(n int) power {
	return power{limited: true, left: min(max(n, 0), mostPower)}
}

// take is whether there is power for one thing more; where there is none it is lost.
func (p *power) take() bool {
	switch {
	case !p.limited:
		return true
	case p.left == 0:
		p.lost = true
		return false
	}
	p.left--
	return true
}

// lay writes b over the first bytes of kept, one by one, till power is lost; it tells how many were written.
func (p *power) lay(kept, b []byte) int {
	laid := 0
laying:
	for _, c := range b {
		switch {
		case p.take():
			kept[laid] = c
			laid++
		default:
			break laying
		}
	}
	return laid
}
