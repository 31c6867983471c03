// Package beam is layer 1: the heliograph's code, and what can have been sent for what was received (shared/doc/01-beam.md).
package beam

import (
	"iter"
	"slices"
	"strings"

	"firetower/api"
)

// signs has each letter or sign at the index that is its value.
const signs = "+abcdefghijklmnopqrstuvwxyz*#"

const pause = string(rune(api.Pause))

// codes has the code of each letter or sign at the index that is its value.
var codes = [len(signs)]string{
	".-.-.",
	".-", "-...", "-.-.", "-..", ".", "..-.", "--.", "....", "..", ".---",
	"-.-", ".-..", "--", "-.", "---", ".--.", "--.-", ".-.", "...", "-",
	"..-", "...-", ".--", "-..-", "-.--", "--..",
	"---.", "----",
}

// Value returns the value of a letter or sign, from 0 to 28; -1 for other bytes.
func Value(letter byte) int { return strings.IndexByte(signs, letter) }

// Code returns the flashes of a letter or sign.
func Code(letter byte) (string, bool) {
	v := Value(letter)
	if v < 0 {
		return "", false
	}
	return codes[v], true
}

// Letter returns the letter or sign with some flashes.
func Letter(code string) (byte, bool) {
	for v := range codes {
		if codes[v] == code {
			return signs[v], true
		}
	}
	return 0, false
}

// Word reports whether a string is a word.
func Word(s string) bool {
	if len(s) < 1 || len(s) > api.MaxLetters {
		return false
	}
	for i := range len(s) {
		if s[i] < 'a' || s[i] > 'z' {
			return false
		}
	}
	return true
}

// Checks returns the signs that go ahead of a word, and behind it.
func Checks(word string) (ahead, behind string, e api.Errno) {
	if !Word(word) {
		return "", "", api.ErrForm
	}
	plain, weighted := 0, 0
	for i := range len(word) {
		v := Value(word[i])
		plain += v
		weighted += (i + 1) * v
	}
	return sign(len(word)), sign(plain) + sign(weighted), api.OK
}

// sign returns the letter or sign with a value, modulo their number.
func sign(value int) string {
	v := value % len(signs)
	return signs[v : v+1]
}

// Signal returns the flashes of a word.
func Signal(word string) (string, api.Errno) {
	ahead, behind, e := Checks(word)
	if e != api.OK {
		return "", e
	}
	signal := slices.Collect(flashes(ahead + word + behind))
	return string(append(signal, api.Pause)), api.OK
}

// flashes yields the codes of letters and signs, each followed by a pause.
func flashes(text string) iter.Seq[byte] {
	return func(yield func(byte) bool) {
		for i := range len(text) {
			code := codes[Value(text[i])]
			for k := range len(code) {
				if !yield(code[k]) {
					return
				}
			}
			if !yield(api.Pause) {
				return
			}
		}
	}
}

// Read returns the word whose signal some flashes are.
func Read(signal string) (string, api.Errno) {
	if e := checkFlashes(signal, api.MaxFlash); e != api.OK {
		return "", e
	}
	word, ok := letters(signal)
	if !ok {
		return "", api.ErrForm
	}
	// The signal of the word is right in all its checks, so nothing else has to be looked at.
	if right, _ := Signal(word); right != signal {
		return "", api.ErrCheck
	}
	return word, api.OK
}

// letters returns the word between the checks of flashes that have the form of a signal, whatever these checks are.
func letters(signal string) (string, bool) {
	body, ended := strings.CutSuffix(signal, pause+pause)
	if !ended {
		return "", false
	}
	var text []byte
	for code := range strings.SplitSeq(body, pause) {
		b, ok := Letter(code)
		if !ok {
			return "", false
		}
		text = append(text, b)
	}
	// One check ahead, two behind, and a letter at least.
	if len(text) < 4 {
		return "", false
	}
	word := string(text[1 : len(text)-2])
	return word, Word(word)
}

// checkFlashes returns the first error of flashes of which there may be so many.
func checkFlashes(s string, most int) api.Errno {
	if len(s) > most {
		return api.ErrLimit
	}
	for i := range len(s) {
		switch s[i] {
		case api.Short, api.Long, api.Pause:
		default:
			return api.ErrForm
		}
	}
	return api.OK
}

// checkFaults returns the error of a number of faults.
func checkFaults(faults int) api.Errno {
	if faults < 0 || faults > api.MaxFaults {
		return api.ErrArg
	}
	return api.OK
}
