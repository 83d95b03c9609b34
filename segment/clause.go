package segment

import (
	"salchow/api"
	"salchow/formula"
	"salchow/lexer"
)

// Clause returns the canonical entry of a segment.
func Clause(c api.Catalog, s api.Segment) (api.Clause, api.Errno) {
	if e := Check(c, s); e != api.OK {
		return api.Clause{}, e
	}
	entry := api.Clause{Word: wordSegment, Atoms: []api.Token{word(s.Name)}, Block: true}
	add := func(name, form string, atoms map[string]api.Token) {
		entry.Kids = append(entry.Kids, fill(name, form, atoms))
	}
	add(wordCount, formItems, map[string]api.Token{placeN: whole(s.Count)})
	add(wordRepeat, formItems, map[string]api.Token{placeN: whole(s.Repeat)})
	add(wordConnections, formAmount, map[string]api.Token{placeV: number(s.Connections)})
	for _, require := range s.Requires {
		add(wordRequire, formRequire, map[string]api.Token{placeGroup: word(require.Group), placeN: whole(require.Least), placeV: number(require.Deduct)})
	}
	for _, penalty := range s.Penalties {
		add(wordPenalty, formPenalty, map[string]api.Token{placeName: word(penalty.Name), placeV: number(penalty.Value), placeN: whole(penalty.Most)})
	}
	for _, panel := range s.Panels {
		form, atoms := panelAtoms(panel)
		add(wordPanel, form, atoms)
	}
	entry.Kids = append(entry.Kids, api.Clause{Word: wordScore, Atoms: scoreAtoms(s.Score)})
	return entry, api.OK
}

// panelAtoms returns the form of a panel, and its atoms by their places.
func panelAtoms(p api.Panel) (string, map[string]api.Token) {
	atoms := map[string]api.Token{
		placeName: word(p.Name),
		placeLo:   number(max(p.Lo, -p.Lo)),
		placeHi:   number(p.Hi),
		placeStep: number(p.Step),
		placeN:    whole(p.Judges),
		placeM:    whole(p.Least),
		placeD:    whole(p.Drop),
		placeT:    number(p.Tolerance),
		placeV:    number(p.Scale),
	}
	if p.Lo < 0 {
		atoms[placeMinus] = api.Token{Kind: api.TokSign, Text: "-"}
	}
	if p.Kind == api.PanelElements {
		return formElements, atoms
	}
	return formOverall, atoms
}

// scoreAtoms returns the atoms of the text of a formula, without their offsets.
func scoreAtoms(x api.Expr) []api.Token {
	text, _ := formula.Print(x)
	tokens, _ := lexer.Lex(text)
	atoms := tokens[:len(tokens)-1] // The last one is the end.
	for i := range atoms {
		atoms[i].At = 0
	}
	return atoms
}
