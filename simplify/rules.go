package simplify

import "sloth/api"

// rule is a row of the table of rules: of which kind of expressions it speaks, whether it fits one of them, what that gives place to. It may use up the nodes of the expression for that.
type rule struct {
	kind  int
	fits  func(*round, *node) bool
	gives func(*round, *node) *node
}

// rules are the rules in their order.
func rules() []rule {
	return []rule{
		{api.ExprApp, (*round).isOfLam, (*round).bindArgument},
		{api.ExprApp, (*round).isOfLet, (*round).moveInside},
		{api.ExprApp, (*round).isOfFail, (*round).failAtOnce},
		{api.ExprApp, (*round).isSmallCall, (*round).putCopy},
		{api.ExprCase, (*round).isOfCon, (*round).choose},
		{api.ExprCase, (*round).isOfInt, (*round).choose},
		{api.ExprCase, (*round).isOfLet, (*round).moveInside},
		{api.ExprCase, (*round).isOfFail, (*round).failAtOnce},
		{api.ExprOp, (*round).isKnown, (*round).workOut},
		{api.ExprOp, (*round).isOfFail, (*round).failAtOnce},
		{api.ExprSeq, (*round).isOfValue, (*round).leaveFirst},
		{api.ExprSeq, (*round).isOfFail, (*round).failAtOnce},
		{api.ExprLet, (*round).hasIdle, (*round).dropIdle},
		{api.ExprLet, (*round).hasAtom, (*round).putAtom},
		{api.ExprLet, (*round).hasSingle, (*round).putSingle},
	}
}

// round is one time that a program is gone through.
type round struct {
	*world
	rules   []rule
	bodies  map[string]*body // of the definitions, as they were when the round began
	copied  int              // nodes of all copies that were made
	changed bool
}

func newRound(w *world, defs []api.Def) *round {
	return &round{world: w, rules: rules(), bodies: bodiesOf(defs)}
}

// isFull tells whether the copies have more nodes than may be. Then the round comes to nothing, and no more are made.
func (r *round) isFull() bool { return r.copied > api.MaxCore }

// all makes the Bodies of definitions simpler.
func (r *round) all(defs []api.Def) []api.Def {
	made := make([]api.Def, len(defs))
	for i, d := range defs {
		d.Body = r.simple(nodesOf(&defs[i].Body)).tell()
		made[i] = d
	}
	return made
}

// simple makes an expression simpler: its parts first; then the first rule that fits it is done, once.
func (r *round) simple(n *node) *node {
	for i, part := range n.parts {
		n.hold(i, r.simple(part))
	}
	for _, rule := range r.rules {
		if rule.kind == n.kind && rule.fits(r, n) {
			r.changed = true
			return rule.gives(r, n)
		}
	}
	return n
}

// The calls below ask about the first part: the function of a call, what a case looks at, the first operand, what is worked out first.

func (r *round) isOfLam(n *node) bool  { return n.parts[0].kind == api.ExprLam }
func (r *round) isOfLet(n *node) bool  { return n.parts[0].kind == api.ExprLet }
func (r *round) isOfFail(n *node) bool { return n.parts[0].kind == api.ExprFail }
func (r *round) isOfInt(n *node) bool  { return n.parts[0].kind == api.ExprInt }

// moveInside puts an expression whose first part is an ExprLet in the place of that one's body, which becomes its first part.
func (r *round) moveInside(n *node) *node {
	let := n.parts[0]
	n.hold(0, let.body())
	let.hold(len(let.locals), n)
	return let
}

// failAtOnce is what comes of an expression that is stuck as its first part is.
func (r *round) failAtOnce(n *node) *node { return r.fail(n, n.parts[0].num) }

// fail is stuck, in the place and of the type of another expression.
func (r *round) fail(n *node, num int) *node {
	made := newFail(num, r.typeOf(n))
	n.drop()
	return made
}
