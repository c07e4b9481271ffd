package model

import (
	"slices"

	"patchbay/api"
	"patchbay/bucket"
	"patchbay/port"
	"patchbay/vlan"
)

// none is the answer of an Op that can't be done, and of a Get where nothing waits.
const none = -1

// Do: something is done.
func (m *Model) Do(o Op) int {
	if m.isNone() || !m.may(o) {
		return none
	}
	switch o.Kind {
	case GetState:
		return m.stands[o.Port].State
	case GetMembers:
		return m.members(o.Vid)
	case Learn:
		return m.book.Learn(o.Key, o.Port, o.Now)
	case Lookup:
		return m.book.Lookup(o.Key)
	case Order:
		return m.book.Order(o.Key, o.Port, o.Now)
	case Drop:
		return number(m.book.Drop(o.Key))
	case Age:
		return m.book.Age(o.Shard, o.Bucket, o.Now, o.Limit)
	case Flush:
		return m.book.Flush(bucket.Filter{Port: o.Port, Vid: o.Vid})
	case SetState:
		return m.setState(o.Port, o.State)
	case SetVlan:
		return number(m.setVlan(o.Vid, o.Members, o.Untagged))
	case Put:
		return number(m.put(o.Port, o.To, o.Id))
	case Get:
		return m.get(o.Port, o.To)
	case Send:
		return m.send(o.To, o.Vid)
	}
	return none
}

// may: are there the ports that an Op's Kind uses?
func (m *Model) may(o Op) bool {
	switch o.Kind {
	case GetState, Learn, Order, SetState:
		return m.isPort(o.Port)
	case Put, Get:
		return m.isPort(o.Port) && m.isPort(o.To)
	case Send:
		return m.isPort(o.To)
	}
	return true
}

func number(b bool) int {
	if b {
		return 1
	}
	return 0
}

func (m *Model) members(vid int) int {
	i := vlan.Find(m.vlans, vid)
	if i < 0 {
		return 0
	}
	return int(m.vlans[i].Members)
}

func (m *Model) setState(p, state int) int {
	s, e := port.Set(m.stands[p], state)
	if e != api.OK {
		return none
	}
	m.stands[p] = s
	return int(s.Epoch)
}

// setVlan keeps of sets what a plan's VLAN may have.
func (m *Model) setVlan(vid int, members, untagged vlan.Set) bool {
	i := vlan.Find(m.vlans, vid)
	if i < 0 {
		return false
	}
	members &= vlan.All(len(m.stands))
	m.vlans[i] = vlan.Vlan{Vid: vid, Members: members, Untagged: untagged & members}
	return true
}

func (m *Model) put(from, to, id int) bool {
	q := m.queues[from][to]
	if len(q) >= m.ring {
		return false
	}
	m.queues[from][to] = append(q, id)
	return true
}

func (m *Model) get(from, to int) int {
	q := m.queues[from][to]
	if len(q) == 0 {
		return none
	}
	id := q[0]
	m.queues[from][to] = slices.Delete(q, 0, 1)
	return id
}

func (m *Model) send(to, vid int) int {
	if !port.Forwards(m.stands[to].State) {
		return Shut
	}
	i := vlan.Find(m.vlans, vid)
	switch {
	case i < 0 || !vlan.Has(m.vlans[i].Members, to):
		return Stranger
	case vlan.Has(m.vlans[i].Untagged, to):
		return Bare
	}
	return Tagged
}
