package disk_test

import (
	"math"
	"strconv"
	"testing"
)

func TestExamples(t *testing.T) {
	for keep, want := range map[string]string{"restart 1": "a 1 2 3 4|", "restart": "a 1 2 3|"} {
		plays(t, "P10, example 1", "", "append a 1 2 3 = ok", "sync a = ok", "append a 4 5 = ok", "crash", keep, "files = "+want)
	}
	plays(t, "P10, example 2", "", "arm 3", "append a 1 2 3 = down", "files = a |1 2 3")
	plays(t, "P10, example 2", "", "arm 4", "append a 1 2 3 = ok", "sync a = down", "files = a |1 2 3")
	plays(t, "P10, example 3", "", "fail 0 2", "append a 1 = io", "sync a = io", "sync a = none", "files =")
	plays(t, "P10, example 3", "", "fail 2 1", "append a 1 = ok", "sync b = none", "sync A = name", "sync a = io", "sync a = ok", "files = a 1|")
	plays(t, "P10, example 4", "", "append A 1 = name", "crash", "append A 1 = name")
	for size, want := range map[string]string{"1": "a 1|", "-5": "a |", "7": "a 1 2|3"} {
		plays(t, "P10, example 5", "a 1 2|3", "trim a "+size+" = ok", "files = "+want)
	}
	plays(t, "P10, example 6", "a |1 2 3, b |4 5 6", "restart 2 -1", "files = a 1 2|, b |")
	plays(t, "P10, example 6", "a |1 2 3, b |4 5 6", "restart 9", "files = a 1 2 3|, b 4 5 6|")
}

// TestAFallWithinAppend: with each number of units that is too small.
func TestAFallWithinAppend(t *testing.T) {
	for units, want := range []string{"|", "|1", "|1 2", "|1 2 3", "|1 2 3 4"} {
		arm := "arm " + strconv.Itoa(units)
		plays(t, "P10.8: a new file", "", arm, "append a 1 2 3 4 = down", "files = a "+want, "append a 5 = down", "append b = down", "files = a "+want)
	}
	for units, want := range []string{"7|8", "7|8 1", "7|8 1 2", "7|8 1 2 3", "7|8 1 2 3 4"} {
		arm := "arm " + strconv.Itoa(units)
		plays(t, "P10.8: a file that is there", "a 7|8, b 9|", arm, "append a 1 2 3 4 = down", "files = a "+want+", b 9|", "restart", "files = a 7|, b 9|", "append a 5 = ok", "sync a = ok")
	}
	plays(t, "P10.8: one unit more is enough", "", "arm 5", "append a 1 2 3 4 = ok", "files = a |1 2 3 4", "append a = down", "files = a |1 2 3 4")
	plays(t, "P10.8: no data costs one unit", "", "arm 0", "append a = down", "files = a |")
	plays(t, "P10.8: no data costs one unit", "", "arm 1", "append a = ok", "append b = down", "files = a |, b |")
}

func TestAFallWithinSyncTrimAndRemove(t *testing.T) {
	for _, what := range []string{"sync a", "trim a 0", "trim a 9", "trim a -1", "remove a"} {
		plays(t, "P10.8", "a 1|2 3, b |4", "arm 0", what+" = down", "files = a 1|2 3, b |4", "sync a = down", "read a = down", "list = down", "append c = down", "files = a 1|2 3, b |4")
		plays(t, "P10.8", "a 1|2 3, b |4", "arm 0", what+" = down", "restart 1", "files = a 1 2|, b 4|", "sync a = ok", "sync b = ok", "append b 5 = ok")
		plays(t, "P10.8", "a 1|2 3, b |4", "arm 1", what+" = ok", "sync b = down")
	}
}

// TestCosts: calls that cost just what is left, one more, one less; the calls behind them.
func TestCosts(t *testing.T) {
	calls := []string{"append b 1 2", "sync b", "append b 3", "trim b 1", "append b", "remove b", "append c 4 5 6"}
	costs := []int{3, 1, 2, 1, 1, 1, 4}
	for units := range 16 {
		lines := []string{"arm " + strconv.Itoa(units)}
		left, down := units, false
		for k, what := range calls {
			down = down || costs[k] > left
			if down {
				lines = append(lines, what+" = down")
			} else {
				left -= costs[k]
				lines = append(lines, what+" = ok")
			}
		}
		plays(t, "P10.2, P10.9", "a 1|", lines...)
	}
	plays(t, "P10.2: a rig with 0 units stays set", "a 1|", "arm 2", "sync a = ok", "sync a = ok", "read a = ok 1", "list = ok a", "sync b = none", "sync a = down")
	plays(t, "P10.9: the greatest number", "a 1|", "arm "+strconv.Itoa(math.MaxInt), "append a 1 2 3 = ok", "sync a = ok", "remove a = ok")
	plays(t, "P10.2: Read and List cost nothing", "a 1|", "arm 1", "read a = ok 1", "list = ok a", "read a = ok 1", "spoil a 0 = true", "sync a = ok", "sync a = down")
}

func TestArm(t *testing.T) {
	plays(t, "P10.9: it takes the place of an earlier one", "a 1|", "arm 0", "arm 2", "sync a = ok", "sync a = ok", "sync a = down")
	plays(t, "P10.9: it takes the place of an earlier one", "a 1|", "arm 9", "sync a = ok", "arm 0", "sync a = down")
	plays(t, "P10.9: below 0 there is none", "a 1|", "arm 0", "arm -1", "sync a = ok", "arm 0", "arm "+strconv.Itoa(math.MinInt), "append a 1 2 3 = ok", "sync a = ok")
	plays(t, "P10.9: while the machine is down it does nothing", "a 1|", "crash", "arm 0", "restart", "sync a = ok", "sync a = ok")
	plays(t, "P10.8: behind a fall there are no rigs", "a 1|", "fail 1 5", "arm 0", "sync a = down", "restart", "sync a = ok", "sync a = ok", "sync a = ok")
	plays(t, "P10.9: it leaves Fail's rig", "a 1|", "fail 1 1", "arm 5", "sync a = ok", "arm -1", "sync a = io", "sync a = ok")
}

func TestFail(t *testing.T) {
	plays(t, "P10.9", "a 1|", "fail 0 1", "sync a = io", "sync a = ok", "sync a = ok")
	plays(t, "P10.9", "a 1|", "fail 1 1", "sync a = ok", "sync a = io", "sync a = ok")
	plays(t, "P10.9", "a 1|", "fail 2 3", "sync a = ok", "append a 2 = ok", "trim a 0 = io", "remove a = io", "append a 3 = io", "files = a 1|2", "remove a = ok", "files =")
	for _, none := range []string{"fail 0 0", "fail 0 -1", "fail -1 1", "fail -1 0", "fail 3 0", "fail -1 -1", "fail -9223372036854775808 1", "fail 0 -9223372036854775808"} {
		plays(t, "P10.9: there is none: "+none, "a 1|", none, "sync a = ok", "append a 2 = ok", "trim a 1 = ok", "remove a = ok")
		plays(t, "P10.9: there is none any more: "+none, "a 1|", "fail 0 5", "sync a = io", none, "sync a = ok", "append a 2 = ok", "trim a 1 = ok", "remove a = ok")
		plays(t, "P10.9: there is none any more: "+none, "a 1|", "fail 2 5", none, "sync a = ok", "append a 2 = ok", "trim a 1 = ok", "remove a = ok")
	}
	plays(t, "P10.9: the greatest numbers", "a 1|", "fail 9223372036854775807 9223372036854775807", "sync a = ok", "sync a = ok", "fail 0 9223372036854775807", "sync a = io", "append b = io", "sync a = io")
	plays(t, "P10.9: it takes the place of an earlier one", "a 1|", "fail 0 5", "fail 1 1", "sync a = ok", "sync a = io", "sync a = ok")
	plays(t, "P10.9: it takes the place of an earlier one", "a 1|", "fail 3 1", "sync a = ok", "fail 0 2", "sync a = io", "sync a = io", "sync a = ok", "sync a = ok")
	plays(t, "P10.9: it leaves Arm's rig", "a 1|", "arm 2", "fail 0 1", "sync a = io", "sync a = ok", "fail 0 0", "sync a = ok", "sync a = down")
	plays(t, "P10.9: while the machine is down it does nothing", "a 1|", "crash", "fail 0 3", "sync a = down", "restart", "sync a = ok")
}

// TestWhatCountsForFail: changing calls that come to that place, whatever they answer then.
func TestWhatCountsForFail(t *testing.T) {
	for _, counts := range []string{"append a 2 = ok", "append b = ok", "sync a = ok", "sync b = none", "trim a 0 = ok", "trim b 0 = none", "remove a = ok", "remove b = none"} {
		plays(t, "P10.9: it counts: "+counts, "a 1|, c |", "fail 1 1", counts, "sync c = io", "sync c = ok")
		plays(t, "P10.9: it counts: "+counts, "a 1|, c |", "fail 2 1", counts, "sync c = ok", "sync c = io", "sync c = ok")
	}
	d := opened(t, filesOfOne("c", 65536, 0))
	goesOn(t, "P10.9: a full disk counts", d, "fail 2 1", "append c 1 = full", "sync c = ok", "sync c = io", "sync c = ok")
	for _, not := range []string{"read a = ok 1", "read b = none", "read A = name", "list = ok a c", "files = a 1|, c |", "spoil a 9 = false", "append A 1 = name", "sync A = name", "trim A 0 = name", "remove A = name"} {
		plays(t, "P10.9: it doesn't count: "+not, "a 1|, c |", "fail 1 1", not, not, "sync c = ok", not, "sync c = io", not, "sync c = ok")
		plays(t, "P10.9: it doesn't fail: "+not, "a 1|, c |", "fail 0 1", not, not, "sync c = io", not, "sync c = ok")
	}
	plays(t, "P10.9: a call that falls counts, and ends the rig", "a 1|", "fail 1 1", "arm 0", "sync a = down", "restart", "sync a = ok", "sync a = ok")
}

func TestCrash(t *testing.T) {
	plays(t, "P10.10", "a 1|2", "crash", "files = a 1|2", "append a 3 = down", "sync a = down", "trim a 0 = down", "remove a = down", "read a = down", "list = down", "files = a 1|2")
	plays(t, "P10.10: twice", "a 1|2", "crash", "crash", "files = a 1|2", "sync a = down", "restart 1", "files = a 1 2|", "sync a = ok")
	plays(t, "P10.10: no rigs", "a 1|2", "arm 0", "fail 0 9", "crash", "sync a = down", "restart", "sync a = ok", "append a 3 = ok", "sync a = ok")
	plays(t, "P10.10: no rigs while it is down", "a 1|2", "fail 1 9", "crash", "sync a = down", "sync a = down", "restart", "sync a = ok", "sync a = ok", "sync a = ok")
}

// TestRestart: of a machine that is up, of one that was let fall, and of one that fell within a call.
func TestRestart(t *testing.T) {
	const files = "a 1|2 3 4, ab |5 6, b 7 8|, c |, d 9|9 9"
	for keep, want := range map[string]string{
		"restart":                 "a 1|, ab |, b 7 8|, c |, d 9|",
		"restart 0":               "a 1|, ab |, b 7 8|, c |, d 9|",
		"restart -1":              "a 1|, ab |, b 7 8|, c |, d 9|",
		"restart 1":               "a 1 2|, ab 5|, b 7 8|, c |, d 9 9|",
		"restart 2":               "a 1 2 3|, ab 5 6|, b 7 8|, c |, d 9 9 9|",
		"restart 3":               "a 1 2 3 4|, ab 5 6|, b 7 8|, c |, d 9 9 9|",
		"restart 99":              "a 1 2 3 4|, ab 5 6|, b 7 8|, c |, d 9 9 9|",
		"restart 0 1":             "a 1|, ab 5|, b 7 8|, c |, d 9|",
		"restart 1 0":             "a 1 2|, ab |, b 7 8|, c |, d 9 9|",
		"restart 2 -7":            "a 1 2 3|, ab |, b 7 8|, c |, d 9 9 9|",
		"restart 1 2 0":           "a 1 2|, ab 5 6|, b 7 8|, c |, d 9 9 9|",
		"restart 0 0 0 0 1":       "a 1|, ab |, b 7 8|, c |, d 9 9|",
		"restart 3 1 5 5 0 7":     "a 1 2 3 4|, ab 5|, b 7 8|, c |, d 9|",
		"restart 0 0 9 9 0 9 9 9": "a 1|, ab |, b 7 8|, c |, d 9|",
		"restart 9223372036854775807 -9223372036854775808": "a 1 2 3 4|, ab |, b 7 8|, c |, d 9 9 9|",
	} {
		for _, ahead := range [][]string{nil, {"crash"}, {"crash", "crash"}, {"arm 0", "sync c = down"}, {"arm 5", "fail 0 5"}, {"arm 0", "fail 1 2"}, {"arm 0", "remove a = down", "arm 0", "fail 0 1"}} {
			d := plays(t, "P10.11", files, ahead...)
			goesOn(t, "P10.11", d, keep, "files = "+want, "sync a = ok", "sync c = ok", "restart", "files = "+want, "sync a = ok")
		}
	}
	plays(t, "P10.11", "", "restart 1 2 3", "files =", "crash", "restart", "list = ok", "append a 1 = ok")
}

func TestRestartCountsFilesByTheirOrder(t *testing.T) {
	plays(t, "P10.11", "", "append z 1 = ok", "append a 2 = ok", "append m 3 = ok", "append 0 4 = ok", "append - 5 = ok", "restart 1 0 1 0 1", "files = - 5|, 0 |, a 2|, m |, z 1|")
	plays(t, "P10.11: a file that is gone doesn't count", "a |1, b |2, c |3", "remove a = ok", "restart 1 0 0", "files = b 2|, c |")
}

func TestSpoil(t *testing.T) {
	for _, ahead := range [][]string{nil, {"crash"}, {"arm 0", "sync a = down"}} {
		for bit := range 24 {
			d := plays(t, "P10.12", "a 0 0|0, b 0|", ahead...)
			line := "spoil a " + strconv.Itoa(bit)
			goesOn(t, "P10.12", d, line+" = true")
			data := []int{0, 0, 0}
			data[bit/8] = []int{1, 2, 4, 8, 16, 32, 64, 128}[bit%8]
			goesOn(t, "P10.12", d, "files = a "+strconv.Itoa(data[0])+" "+strconv.Itoa(data[1])+"|"+strconv.Itoa(data[2])+", b 0|", line+" = true", "files = a 0 0|0, b 0|")
		}
		d := plays(t, "P10.12", "a 255 255|, b |", ahead...)
		goesOn(t, "P10.12", d, "spoil a 0 = true", "spoil a 15 = true", "files = a 254 127|, b |")
		for _, not := range []string{"a 16", "a 17", "a 1000", "a -1", "a -8", "a -16", "a 9223372036854775807", "a -9223372036854775808", "b 0", "b -1", "c 0", "c -1", "A 0", "aa 0", "abcdefghijklm 0"} {
			goesOn(t, "P10.12", d, "spoil "+not+" = false", "files = a 254 127|, b |")
		}
	}
	plays(t, "P10.12: it costs nothing and is no changing call", "a 0|", "arm 1", "fail 1 1", "spoil a 0 = true", "spoil a 1 = true", "spoil a 8 = false", "sync a = ok", "sync a = io", "sync a = down")
	plays(t, "P10.12: what is sure stays so", "a 1|2", "spoil a 0 = true", "spoil a 8 = true", "files = a 0|3", "read a = ok 0 3", "restart", "files = a 0|")
	plays(t, "P10.12: a bit of bytes that are gone", "a 1 2|", "trim a 1 = ok", "spoil a 8 = false", "append a 0 = ok", "spoil a 8 = true", "files = a 1|1", "remove a = ok", "spoil a 0 = false")
}

func TestFilesWhileTheMachineIsDown(t *testing.T) {
	plays(t, "P10.13", "b |1, a 2|3", "files = a 2|3, b |1", "crash", "files = a 2|3, b |1", "files = a 2|3, b |1", "restart 1", "files = a 2 3|, b 1|")
	plays(t, "P10.13", "", "files =", "crash", "files =")
	plays(t, "P10.13", "", "arm 1", "append a 1 2 = down", "files = a |1")
}
