package bag_test

import "tideline/api"

// plain is a second reading of the promises: a list of all frames that ever came in, none of which is ever taken from it; and the numbers of those that are in the bag no more.
type plain struct {
	room int
	came []packet
	left map[int]bool
	lost int
}

// under are the frames that are in the bag.
func (p *plain) under() []packet {
	var l []packet
	for _, x := range p.came {
		if !p.left[x.num] {
			l = append(l, x)
		}
	}
	return l
}

func (p *plain) send(from, to int, data string) (int, api.Errno) {
	nodes := map[int]bool{0: true, 1: true, 2: true, 3: true, 4: true, 5: true, 6: true, 7: true}
	if !nodes[from] || !nodes[to] || from == to {
		return 0, api.ErrArg
	}
	if len(data) > 65536 {
		return 0, api.ErrFrame
	}
	return p.add(from, to, data), api.OK
}

func (p *plain) add(from, to int, data string) int {
	if len(p.under()) == p.room {
		p.lost++
		return 0
	}
	n := len(p.came) + 1
	p.came = append(p.came, packet{n, from, to, data})
	return n
}

// find is the frame whose number in the bag is i, and whether there is one.
func (p *plain) find(i int) (packet, bool) {
	for n, x := range p.under() {
		if n == i {
			return x, true
		}
	}
	return packet{}, false
}

func (p *plain) take(i int) (packet, api.Errno) {
	x, is := p.find(i)
	if !is {
		return packet{}, api.ErrNone
	}
	if p.left == nil {
		p.left = map[int]bool{}
	}
	p.left[x.num] = true
	return x, api.OK
}

func (p *plain) drop(i int) api.Errno {
	_, e := p.take(i)
	if e == api.OK {
		p.lost++
	}
	return e
}

func (p *plain) double(i int) (int, api.Errno) {
	x, is := p.find(i)
	if !is {
		return 0, api.ErrNone
	}
	return p.add(x.from, x.to, x.data), api.OK
}
