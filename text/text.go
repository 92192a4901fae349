// Package text is layer 2: texts that may be: see shared/doc/02-text.md.
package text

import (
	"strings"
	"unicode/utf8"

	"pouch/api"
)

// Right: may it be? Runes: how many signs it has.
func Right(s string) bool {
	return len(s) <= api.MaxText && utf8.ValidString(s) && strings.IndexByte(s, 0) < 0
}

func Runes(s string) int {
	if !Right(s) {
		return 0
	}
	return utf8.RuneCountInString(s)
}
