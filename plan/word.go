package plan

import (
	"errors"
	"strconv"
	"strings"

	"eddy/api"
	"eddy/name"
)

const (
	digits = "0123456789"

	maxDigits = 9
	// maxNumber is the greatest number of maxDigits digits.
	maxNumber = 999999999
)

// plain reads a number without a sign.
func plain(s string) (int, error) {
	if s == "" || len(s) > maxDigits || strings.Trim(s, digits) != "" {
		return 0, api.ErrPlanNumber
	}
	return strconv.Atoi(s)
}

// signed reads a number that may have a - ahead.
func signed(s string) (int, error) {
	bare, below := strings.CutPrefix(s, "-")
	n, err := plain(bare)
	if below {
		n = -n
	}
	return n, err
}

// times reads how often a repeat is gone through.
func times(s string) (int, error) {
	n, err := plain(s)
	if err != nil || n < 1 || n > api.MaxScript {
		return 0, api.ErrPlanNumber
	}
	return n, nil
}

// names holds the numbers of the tasks by their names.
type names map[string]int

// find gives the number of the task of that name; ErrPlanName, if there is none.
func (n names) find(task string) (int, error) {
	number, ok := n[task]
	if !ok {
		return 0, api.ErrPlanName
	}
	return number, nil
}

// add gives the next number to a name that is one and that no task has yet.
func (n names) add(task string) error {
	if !name.Fits(task) {
		return api.ErrPlanName
	}
	if _, err := n.find(task); !errors.Is(err, api.ErrPlanName) {
		return api.ErrPlanTwice
	}
	n[task] = len(n)
	return nil
}

// layout says what a word stands for, and what follows it: expressions, then numbers.
type layout struct {
	kind, exprs, numbers int
}

// kinds are the words of the tasks' kinds.
func kinds() map[string]layout {
	return map[string]layout{
		"source": {kind: api.Source, numbers: 1},
		"map":    {kind: api.Map, exprs: 2},
		"filter": {kind: api.Filter, exprs: 1},
		"fold":   {kind: api.Fold, exprs: 2},
		"union":  {kind: api.Union},
		"split":  {kind: api.Split, exprs: 1},
		"tee":    {kind: api.Tee},
		"join":   {kind: api.Join},
		"window": {kind: api.Window, numbers: 1},
		"dedup":  {kind: api.Dedup},
		"head":   {kind: api.Head},
		"tail":   {kind: api.Tail, exprs: 1, numbers: 1},
		"sink":   {kind: api.Sink},
	}
}

// steps are the words of the steps' kinds. What may follow the numbers of a fail and of a recover is not said here.
func steps() map[string]layout {
	return map[string]layout{
		"pick":    {kind: api.OpPick, numbers: 2},
		"trigger": {kind: api.OpTrigger},
		"post":    {kind: api.OpPost},
		"abort":   {kind: api.OpAbort},
		"crash":   {kind: api.OpCrash},
		"arm":     {kind: api.OpArm, numbers: 1},
		"fail":    {kind: api.OpFail, numbers: 1},
		"spoil":   {kind: api.OpSpoil, numbers: 2},
		"recover": {kind: api.OpRecover},
	}
}

// wordOf finds the word of a kind. No kind has two, so it isn't seen in which order they are gone through.
func wordOf(kind int, words map[string]layout) (string, layout, bool) {
	for word, follows := range words {
		if follows.kind == kind {
			return word, follows, true
		}
	}
	return "", layout{}, false
}
