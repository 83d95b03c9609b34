package lexer

import (
	"strconv"
	"strings"

	"salchow/api"
)

// Valid reports whether a token is possible, whatever its offset is.
func Valid(t api.Token) bool {
	if t.Kind == api.TokNumber {
		return t.Text == "" && t.N >= 0 && t.N <= api.MaxNumber
	}
	return t.N == 0 && validText(t.Kind, t.Text)
}

// validText reports whether some token of a kind other than TokNumber has a text.
func validText(kind int, text string) bool {
	switch kind {
	case api.TokWord:
		return wordlike(text) && len(text) <= maxWord
	case api.TokString:
		return titled(text) == api.OK
	case api.TokSign:
		return len(text) == 1 && kindOf(text[0]) == sign
	case api.TokEnd:
		return text == ""
	}
	return false
}

// Spell returns the spelling of a possible token.
func Spell(t api.Token) (string, api.Errno) {
	if !Valid(t) {
		return "", api.ErrArgument
	}
	switch t.Kind {
	case api.TokNumber:
		return decimal(t.N), api.OK
	case api.TokString:
		return `"` + t.Text + `"`, api.OK
	}
	return t.Text, api.OK
}

// decimal returns a number of thousandths that is not negative with as few digits behind the point as possible.
func decimal(n int64) string {
	whole := strconv.FormatInt(n/1000, 10)
	// The thousand in front keeps the zeros at the beginning.
	decimals := strings.TrimRight(strconv.FormatInt(1000+n%1000, 10)[1:], "0")
	if decimals == "" {
		return whole
	}
	return whole + "." + decimals
}

// Join returns a source of the given tokens, with one blank between them.
func Join(tokens []api.Token) (string, api.Errno) {
	var spellings []string
	for i, t := range tokens {
		spelling, e := Spell(t)
		if e != api.OK {
			return "", e
		}
		if t.Kind != api.TokEnd {
			spellings = append(spellings, spelling)
		} else if i < len(tokens)-1 {
			return "", api.ErrArgument
		}
	}
	src := strings.Join(spellings, " ")
	if len(src) > api.MaxSource {
		return "", api.ErrLimit
	}
	return src, api.OK
}
