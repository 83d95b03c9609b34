package catalog

import (
	"cmp"
	"slices"
	"strings"

	"salchow/api"
)

// Clauses returns entries from which Load returns c.
func Clauses(c api.Catalog) []api.Clause {
	// Of a list that Load cannot return, the chains might be too long to be followed for every code.
	if Check(c) != api.OK {
		return nil
	}
	var list []api.Clause
	for _, group := range c.Groups {
		list = append(list, clause(wordGroup, word(group.Name), word("limit"), number(1000*int64(group.Limit)), word("credit"), number(group.Credit)))
	}
	for _, class := range c.Classes {
		list = append(list, clause(wordClass, word(class)))
	}
	for _, element := range byChains(c) {
		list = append(list, elementClause(element))
	}
	for _, connect := range c.Connects {
		list = append(list, clause(wordConnect, word(connect.First), word(connect.Second), word("value"), number(connect.Value)))
	}
	return list
}

// clause returns an entry without a block.
func clause(name string, atoms ...api.Token) api.Clause {
	return api.Clause{Word: name, Atoms: atoms}
}

// word returns the token of a word.
func word(text string) api.Token { return api.Token{Kind: api.TokWord, Text: text} }

// number returns the token of a number of thousandths.
func number(n int64) api.Token { return api.Token{Kind: api.TokNumber, N: n} }

// elementClause returns the entry of an element.
func elementClause(element api.Element) api.Clause {
	entry := clause(wordElement, word(element.Code), word("group"), word(element.Group), word("value"), number(element.Value))
	if element.Class != "" {
		entry.Atoms = append(entry.Atoms, word("class"), word(element.Class))
	}
	if element.Lower != "" {
		entry.Atoms = append(entry.Atoms, word("lower"), word(element.Lower))
	}
	return entry
}

// byChains returns the elements of a valid catalog, those with shorter lower chains first.
func byChains(c api.Catalog) []api.Element {
	elements := elementsOf(c)
	lengths := map[string]int{}
	for _, element := range c.Elements {
		lengths[element.Code] = len(chain(elements, element.Code))
	}
	sorted := slices.Clone(c.Elements)
	slices.SortFunc(sorted, func(a, b api.Element) int {
		return cmp.Or(cmp.Compare(lengths[a.Code], lengths[b.Code]), strings.Compare(a.Code, b.Code))
	})
	return sorted
}
