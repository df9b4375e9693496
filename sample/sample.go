// Package sample yields texts for the tests of the other packages, always the same ones.
package sample

import (
	"iter"
	"strings"
)

// Texts yields every text that consists of at most so many of the pieces.
func Texts(most int, pieces ...string) iter.Seq[string] {
	return func(yield func(string) bool) {
		extend("", most, pieces, yield)
	}
}

func extend(text string, most int, pieces []string, yield func(string) bool) bool {
	if !yield(text) {
		return false
	}
	if most <= 0 {
		return true
	}
	for _, piece := range pieces {
		if !extend(text+piece, most-1, pieces, yield) {
			return false
		}
	}
	return true
}

// Mixed yields so many texts of at most so many of the pieces, in an irregular mixture.
func Mixed(count, most int, pieces ...string) iter.Seq[string] {
	return func(yield func(string) bool) {
		state := uint64(len(pieces))
		next := func(below int) int {
			state = state*6364136223846793005 + 1442695040888963407
			return int(state >> 33 % uint64(max(below, 1)))
		}
		for range count {
			var text strings.Builder
			for range next(most + 1) {
				text.WriteString(pieces[next(len(pieces))])
			}
			if !yield(text.String()) {
				return
			}
		}
	}
}

// Bytes returns the 256 texts of one byte.
func Bytes() []string {
	all := make([]string, 256)
	for i := range all {
		all[i] = string([]byte{byte(i)})
	}
	return all
}
