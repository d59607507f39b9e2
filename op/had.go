package op

import "rolodex/api"

// parts tells which ones there are beside Kind, ID and S; from is of From and FromNo together.
type parts struct{ no, v, from, p, d bool }

// had is the parts that things of a kind have.
func had(kind int) parts {
	switch kind {
	case api.Set:
		return parts{no: true, v: true}
	case api.Copy:
		return parts{no: true, from: true, d: true}
	case api.Delta:
		return parts{no: true, p: true, d: true}
	}
	return parts{}
}

// kept is o without the parts that its kind does not have.
func kept(o api.Op) api.Op {
	k := api.Op{Kind: o.Kind, ID: o.ID, S: o.S}
	has := had(o.Kind)
	if has.no {
		k.No = o.No
	}
	if has.v {
		k.V = o.V
	}
	if has.from {
		k.From, k.FromNo = o.From, o.FromNo
	}
	if has.p {
		k.P = o.P
	}
	if has.d {
		k.D = o.D
	}
	return k
}
