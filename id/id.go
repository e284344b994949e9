// Package id is layer 1: names of elements (see shared/doc/01-id.md).
package id

import (
	"strconv"
	"strings"

	"selvedge/api"
)

const (
	noneText  = "-"
	wrongText = "?"
	// Eighteen nines are below 2^63, so that no sum of so many digits leaves an int64.
	maxDigits = 18
)

// ID is an element's name; the zero one is None.
type ID struct {
	Counter int64
	Site    int
}

// None says whether an id is the zero one, which names no element.
func (a ID) None() bool { return a == ID{} }

// Check says what is wrong with an id: ErrRange, or OK.
func (a ID) Check() api.Errno {
	if a.Counter < 1 || a.Counter > api.MaxCounter || a.Site < 1 || a.Site > api.MaxSite {
		return api.ErrRange
	}
	return api.OK
}

// Less says whether an id is below another one. Numbers are held against each
// other, never subtracted: they may be any, and a difference could wrap round.
func (a ID) Less(b ID) bool {
	if a.Counter != b.Counter {
		return a.Counter < b.Counter
	}
	return a.Site < b.Site
}

// String is an id's text: "-" of None, "?" of one that may not be.
func (a ID) String() string {
	if a.None() {
		return noneText
	}
	if a.Check() != api.OK {
		return wrongText
	}
	return strconv.FormatInt(a.Counter, 10) + "." + strconv.Itoa(a.Site)
}

// Number is the number of at most eighteen digits, and true, if it is at most most.
func Number(s string, most int64) (int64, bool) {
	if len(s) > maxDigits || !areDigits(s) {
		return 0, false
	}
	var n int64
	for i := range len(s) {
		n = n*10 + int64(s[i]-'0')
	}
	if n > most {
		return 0, false
	}
	return n, true
}

// areDigits says whether a text is decimal digits, one at least, however many,
// and has no 0 ahead of others.
func areDigits(s string) bool {
	if s == "" || len(s) > 1 && s[0] == '0' {
		return false
	}
	for i := range len(s) {
		if s[i] < '0' || s[i] > '9' {
			return false
		}
	}
	return true
}

// Parse is the id of a text, as String writes it.
func Parse(s string) (ID, api.Errno) {
	if s == noneText {
		return ID{}, api.OK
	}
	// The form of both parts comes ahead of the range of either, and digits
	// that are too many for Number are out of range, not of a wrong form.
	left, right, found := strings.Cut(s, ".")
	if !found || !areDigits(left) || !areDigits(right) {
		return ID{}, api.ErrForm
	}
	// What is too great, Number answers as 0, which Check refuses as well.
	counter, _ := Number(left, api.MaxCounter)
	site, _ := Number(right, api.MaxSite)
	a := ID{Counter: counter, Site: int(site)}
	if e := a.Check(); e != api.OK {
		return ID{}, e
	}
	return a, api.OK
}

// Least is the one of some ids below which none of them is; None, without any.
func Least(l ...ID) ID {
	if len(l) == 0 {
		return ID{}
	}
	least := l[0]
	for _, a := range l[1:] {
		if a.Less(least) {
			least = a
		}
	}
	return least
}
