package term

import "tenet/api"

// What the nodes of an Op have beside N and their parts.
const (
	plain   = iota // nothing
	leveled        // one level
	named          // a name, and up to MaxParams levels
)

// shape describes the nodes of an Op.
type shape struct {
	word  string // what their text begins with
	kind  int    // what they have beside N and parts
	most  int    // the greatest N
	binds string // for each part a digit: how many variables it binds
}

// shapes has a row for each Op. That of TElim tells of no methods; a node has as many of them as it has parts between its first one and its last two.
var shapes = [...]shape{
	api.TVar:     {word: "#", most: api.MaxNodes},
	api.TConst:   {word: "@", kind: named},
	api.TType:    {word: "type", kind: leveled},
	api.TProp:    {word: "prop"},
	api.TPi:      {word: "pi", most: 3, binds: "01"},
	api.TLam:     {word: "lam", most: 1, binds: "01"},
	api.TApp:     {word: "app", most: 1, binds: "00"},
	api.TSigma:   {word: "sig", most: 3, binds: "01"},
	api.TPair:    {word: "pair", most: 3, binds: "0100"},
	api.TFst:     {word: "fst", binds: "0"},
	api.TSnd:     {word: "snd", binds: "0"},
	api.TUnit:    {word: "unit"},
	api.TStar:    {word: "star"},
	api.TTrue:    {word: "true"},
	api.TTrivial: {word: "trivial"},
	api.TFalse:   {word: "false"},
	api.TAbsurd:  {word: "absurd", most: 1, binds: "00"},
	api.TEq:      {word: "eq", kind: leveled, binds: "000"},
	api.TRefl:    {word: "refl", kind: leveled, binds: "00"},
	api.TSubst:   {word: "subst", kind: leveled, binds: "010000"},
	api.TCast:    {word: "cast", kind: leveled, binds: "0000"},
	api.TCoh:     {word: "coh", kind: leveled, binds: "000"},
	api.TQuo:     {word: "quo", kind: leveled, binds: "02000"},
	api.TClass:   {word: "class", binds: "00"},
	api.TOut:     {word: "out", kind: leveled, most: 1, binds: "01100"},
	api.TData:    {word: "data", kind: named, binds: "0"},
	api.TCon:     {word: "con", kind: named, most: api.MaxCases - 1, binds: "00"},
	api.TElim:    {word: "elim", kind: named, most: 1, binds: "200"},
	api.THole:    {word: "?", most: api.MaxNodes},
	api.TProof:   {word: "proof"},
}

func isOp(op int) bool {
	return api.TVar <= op && op <= api.TProof
}

// binders returns how many variables the part i binds in a node with this Op and count parts. A part too many, of which the Op knows nothing, binds none.
func binders(op, count, i int) int {
	if !isOp(op) {
		return 0
	}
	if op == api.TElim && i > 0 {
		return methodBinders(count, i)
	}
	row := shapes[op].binds
	if i >= len(row) {
		return 0
	}
	return int(row[i] - '0')
}

// methodBinders is binders for the parts of a TElim behind its motive.
func methodBinders(count, i int) int {
	isMethod := i < count-2 && i <= api.MaxCases
	if isMethod {
		return 3
	}
	return 0
}
