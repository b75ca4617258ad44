package desk

import (
	"strconv"

	"arrears/api"
	"arrears/chart"
)

// none answers a line that has no word behind its first.
func none(rest []string, answer func() (string, error)) (string, error) {
	if len(rest) != 0 {
		return "", api.ErrText
	}
	return answer()
}

// one answers a line that has one word behind its first, by what is read of it.
func one[T any](rest []string, read func(string) (T, error), answer func(T) (string, error)) (string, error) {
	if len(rest) != 1 {
		return "", api.ErrText
	}
	x, err := read(rest[0])
	if err != nil {
		return "", err
	}
	return answer(x)
}

// two answers a line that has two words behind its first.
func two[T, U any](rest []string, read func(string) (T, error), next func(string) (U, error), answer func(T, U) (string, error)) (string, error) {
	if len(rest) != 2 {
		return "", api.ErrText
	}
	y, err := next(rest[1])
	if err != nil {
		return "", err
	}
	return one(rest[:1], read, func(x T) (string, error) { return answer(x, y) })
}

// number is that of a decimal text, up to 2^31 - 1.
func number(word string) (int, error) {
	n, err := strconv.ParseUint(word, 10, 31)
	// Noughts in front only the text itself shows.
	if err != nil || strconv.FormatUint(n, 10) != word {
		return 0, api.ErrText
	}
	return int(n), nil
}

// kept tells which writes a Fall keeps.
func kept(word string) ([]bool, error) {
	switch word {
	case "":
		return nil, api.ErrText
	case "-":
		return nil, nil
	}
	keep := make([]bool, len(word))
	for k := range keep {
		if word[k] != '0' && word[k] != '1' {
			return nil, api.ErrText
		}
		keep[k] = word[k] == '1'
	}
	return keep, nil
}

// account is the one of that name.
func account(name string) (byte, error) {
	for n := byte(chart.Cash); n <= chart.Recovered; n++ {
		if chart.Account(n) == name {
			return n, nil
		}
	}
	return 0, api.ErrText
}
