package beam

import "firetower/api"

// The first letters of telegrams.
const (
	message = 'm'
	receipt = 'r'
)

const alphabet = 26 // letters

// Pack returns a telegram as a word.
func Pack(t api.Telegram) (string, api.Errno) {
	if !valid(t) {
		return "", api.ErrArg
	}
	head := string(rune(message))
	if t.Kind == api.TeReceipt {
		head = string(rune(receipt))
	}
	return head + sign(t.Number/alphabet+1) + sign(t.Number%alphabet+1) + t.Text, api.OK
}

// valid reports whether a telegram is valid.
func valid(t api.Telegram) bool {
	if t.Number < 0 || t.Number > api.MaxNumber {
		return false
	}
	switch t.Kind {
	case api.TeMessage:
		return t.Text == "" || Word(t.Text) && len(t.Text) <= api.MaxTelling
	case api.TeReceipt:
		return t.Text == ""
	}
	return false
}

// Unpack returns the telegram that a word is.
func Unpack(word string) (api.Telegram, api.Errno) {
	if !Word(word) || len(word) < 3 {
		return api.Telegram{}, api.ErrForm
	}
	t := api.Telegram{Number: (Value(word[1])-1)*alphabet + Value(word[2]) - 1, Text: word[3:]}
	switch word[0] {
	case message:
		t.Kind = api.TeMessage
	case receipt:
		t.Kind = api.TeReceipt
	}
	if !valid(t) {
		return api.Telegram{}, api.ErrForm
	}
	return t, api.OK
}
