package serve

import (
	"bower/api"
	"bower/canon"
	"bower/ite"
	"bower/oper"
	"bower/quant"
	"bower/read"
	"bower/size"
	"bower/store"
	"bower/tab"
	"bower/wire"
)

// Do answers a request: P19.1. The answer always may be, as no charge is above a quota, and no cost below 0.
func (s *Server) Do(b []byte) []byte {
	told, _ := wire.PutResp(s.answer(b))
	return told
}

// answer tells what is answered to bytes. A tenant that isn't there holds nothing, and its cost is 0.
func (s *Server) answer(b []byte) api.Resp {
	r, err := wire.Get(b)
	if err != nil {
		return api.Resp{Code: api.BadRequest}
	}
	code, val := s.meet(r)
	a := s.accountOf(r)
	return api.Resp{
		Code:   code,
		Tenant: r.Tenant,
		Val:    val,
		Charge: need(s.functions(a.slots.Vals())),
		Cost:   a.cost,
	}
}

// meet does what a request asks, and tells the code and the value that are answered.
func (s *Server) meet(r api.Req) (int, uint64) {
	if r.Op == api.Create {
		return s.create(r), 0
	}
	quota, ok := s.ledger.Quota(r.Tenant)
	if !ok {
		return api.NoTenant, 0
	}
	nodes, ok := s.nodes(r)
	if !ok {
		return api.BadHandle, 0
	}
	switch r.Op {
	case api.Teardown:
		s.teardown(r)
		return api.OK, 0
	case api.Revoke:
		s.accountOf(r).slots.Release(r.A)
		return api.OK, 0
	case api.Release:
		s.accountOf(r).cost++
		s.accountOf(r).slots.Release(r.A)
		return api.OK, 0
	case api.Status:
		return api.OK, uint64(quota)
	case api.Eval, api.Count, api.Support, api.Size, api.Same:
		return api.OK, s.ask(r, nodes)
	}
	return s.grant(r, nodes, quota)
}

// create lets a tenant in. That it may be one, with such a quota, wire saw to.
func (s *Server) create(r api.Req) int {
	if _, ok := s.ledger.Quota(r.Tenant); ok {
		return api.TenantIs
	}
	if s.ledger.Admit(r.Tenant, r.N) != nil {
		return api.NoCapacity
	}
	return api.OK
}

// teardown lets a tenant go, with all that it holds; the cost goes, too, as nothing is told of who isn't there, and it is 0 at the next Create.
func (s *Server) teardown(r api.Req) {
	s.accountOf(r).slots.Clear()
	s.accountOf(r).cost = 0
	s.ledger.Leave(r.Tenant)
}

// ask tells what is asked of nodes. As no two nodes are alike, two are the same function just if they are one.
func (s *Server) ask(r api.Req, nodes []int) uint64 {
	s.accountOf(r).cost += price(s.functions(nodes))
	switch r.Op {
	case api.Eval:
		return bit(read.Value(s.store, nodes[0], r.N))
	case api.Count:
		return uint64(read.Count(s.store, nodes[0]))
	case api.Support:
		return uint64(read.Support(s.store, nodes[0]))
	case api.Size:
		return uint64(need(s.functions(nodes)))
	}
	return bit(nodes[0] == nodes[1])
}

// grant makes a function that may be held. What is refused is refused ahead of the first change to the store, even of Collect.
func (s *Server) grant(r api.Req, nodes []int, quota int) (int, uint64) {
	a := s.accountOf(r)
	f := s.foresee(r, nodes)
	a.cost += price(append(s.functions(nodes), f))
	if need(append(s.functions(a.slots.Vals()), f)) > quota {
		return api.Quota, 0
	}
	if !a.slots.Free() {
		return api.NoSlot, 0
	}
	s.makeRoom()
	// Behind Renew the handles have other nodes.
	nodes, _ = s.nodes(r)
	h, _ := a.slots.Grant(obtain(s.store, s.cache, r, nodes))
	return api.OK, h
}

// foresee tells the function that a request makes, by a store aside, so that the server's own stays as it is.
// There is room aside for three functions, which need no more than one step does, and for that step.
func (s *Server) foresee(r api.Req, nodes []int) api.Func {
	aside, nums, _ := canon.Canon(s.store, 2*api.OneStep, nodes)
	return read.Table(aside, obtain(aside, ite.New(), r, nums))
}

// makeRoom sees to it that there is room for what one request makes.
func (s *Server) makeRoom() {
	if s.store.Room() < api.OneStep {
		s.Collect()
	}
	if s.store.Room() < api.OneStep {
		s.Renew()
	}
}

// obtain tells the node that a request makes of nodes, where there is room for it.
func obtain(at *store.Store, c *ite.Cache, r api.Req, nodes []int) int {
	n, _ := apply(at, c, r, nodes)
	return n
}

// apply is obtain with what the layers below tell.
func apply(at *store.Store, c *ite.Cache, r api.Req, nodes []int) (int, error) {
	switch r.Op {
	case api.Const:
		return read.Build(at, tab.Const(r.Bit == 1))
	case api.Var:
		return read.Build(at, tab.Var(r.N))
	case api.Not:
		return oper.Not(at, c, nodes[0])
	case api.And:
		return oper.And(at, c, nodes[0], nodes[1])
	case api.Or:
		return oper.Or(at, c, nodes[0], nodes[1])
	case api.Xor:
		return oper.Xor(at, c, nodes[0], nodes[1])
	case api.Ite:
		return c.Ite(at, nodes[0], nodes[1], nodes[2])
	case api.Restrict:
		return quant.Restrict(at, nodes[0], r.N, r.Bit == 1)
	case api.Compose:
		return quant.Compose(at, c, nodes[0], r.N, nodes[1])
	case api.Exists:
		return quant.Exists(at, c, nodes[0], r.N)
	}
	return quant.Forall(at, c, nodes[0], r.N)
}

// accountOf tells the account of a request's tenant.
func (s *Server) accountOf(r api.Req) *account { return &s.accounts[r.Tenant-1] }

// nodes tells the nodes of the handles that a request names, in order; false if the tenant doesn't hold one of them.
func (s *Server) nodes(r api.Req) ([]int, bool) {
	var nodes []int
	for _, h := range named(r) {
		n, err := s.accountOf(r).slots.Get(h)
		if err != nil {
			return nil, false
		}
		nodes = append(nodes, n)
	}
	return nodes, true
}

// named tells the handles that a request's Op names, in order.
func named(r api.Req) []uint64 {
	switch r.Op {
	case api.Create, api.Teardown, api.Const, api.Var, api.Status:
		return nil
	case api.And, api.Or, api.Xor, api.Compose, api.Same:
		return []uint64{r.A, r.B}
	case api.Ite:
		return []uint64{r.A, r.B, r.C}
	}
	return []uint64{r.A}
}

// functions tells the functions of nodes.
func (s *Server) functions(nodes []int) []api.Func {
	var l []api.Func
	for _, n := range nodes {
		l = append(l, read.Table(s.store, n))
	}
	return l
}

// need tells how many nodes functions need together, in the plain order, whatever the store's is.
func need(l []api.Func) int { return size.Size(l, size.Plain()) }

// price tells what a request costs that has to do with these functions: each is paid for alone.
func price(l []api.Func) int {
	sum := 1
	for _, f := range l {
		sum += need([]api.Func{f})
	}
	return sum
}

// bit tells 1 of what is so.
func bit(b bool) uint64 {
	if b {
		return 1
	}
	return 0
}
