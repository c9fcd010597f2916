package fault_test

import (
	"errors"
	"math"
	"runtime"
	"slices"
	"strings"
	"testing"

	"tripwire/api"
	"tripwire/fault"
)

// raised is what f panics with; nil, if it comes to its end.
func raised(f func()) (r any) {
	defer func() { r = recover() }()
	f()
	return nil
}

// codes are all that api names but OK, and some that it doesn't name.
func codes() []api.Errno {
	l := []api.Errno{-1, api.ErrForm + 1, math.MinInt, math.MaxInt}
	for c := api.ErrSyntax; c <= api.ErrForm; c++ {
		l = append(l, c)
	}
	return l
}

func places() []int { return []int{0, 1, 3, -1, -7, math.MaxInt, math.MinInt} }

func TestStopPanicsWithItsFault(t *testing.T) {
	for _, c := range codes() {
		for _, at := range places() {
			if r := raised(func() { fault.Stop(c, at) }); r != any(api.Fault{Code: c, At: at}) {
				t.Errorf("Stop(%d, %d) panics with %#v", c, at, r)
			}
		}
	}
}

func TestStopWithOKDoesNothing(t *testing.T) {
	for _, at := range places() {
		if r := raised(func() { fault.Stop(api.OK, at) }); r != nil {
			t.Errorf("Stop(OK, %d) panics with %#v", at, r)
		}
	}
}

func TestCheckStopsAtPlaceZero(t *testing.T) {
	for _, c := range codes() {
		if r := raised(func() { fault.Check(c) }); r != any(api.Fault{Code: c}) {
			t.Errorf("Check(%d) panics with %#v", c, r)
		}
	}
	if r := raised(func() { fault.Check(api.OK) }); r != nil {
		t.Errorf("Check(OK) panics with %#v", r)
	}
}

func TestCatchTellsTheFault(t *testing.T) {
	for _, c := range codes() {
		for _, at := range places() {
			want := api.Fault{Code: c, At: at}
			ahead, behind := 0, 0
			got := fault.Catch(func() {
				ahead++
				fault.Stop(api.OK, at)
				fault.Check(api.OK)
				ahead++
				fault.Stop(c, at)
				behind++
			})
			if got != want || ahead != 2 || behind != 0 {
				t.Errorf("Catch of Stop(%d, %d): %v, %d done ahead, %d behind", c, at, got, ahead, behind)
			}
		}
	}
}

func TestCatchOfWhatComesToItsEnd(t *testing.T) {
	n := 0
	if x := fault.Catch(func() { n++ }); x != (api.Fault{}) || n != 1 {
		t.Error(x, n)
	}
}

func TestCatchLeavesNothingBehind(t *testing.T) {
	fault.Catch(func() { fault.Stop(api.ErrLog, 9) })
	if x := fault.Catch(func() {}); x != (api.Fault{}) {
		t.Error(x)
	}
	if r := raised(func() { fault.Stop(api.ErrType, 2) }); r != any(api.Fault{Code: api.ErrType, At: 2}) {
		t.Errorf("a stop behind a Catch isn't its own: %#v", r)
	}
}

func TestCatchMeetsAStopFromFarWithin(t *testing.T) {
	var dive func(n int)
	left := 0
	dive = func(n int) {
		defer func() { left++ }()
		if n == 0 {
			fault.Stop(api.ErrLong, -4)
		}
		dive(n - 1)
	}
	if x := fault.Catch(func() { dive(1000) }); x != (api.Fault{Code: api.ErrLong, At: -4}) || left != 1001 {
		t.Error(x, left)
	}
}

func TestCatchMeetsThePanicThatAStopIs(t *testing.T) {
	want := api.Fault{Code: api.ErrMark, At: 6}
	if x := fault.Catch(func() { panic(want) }); x != want {
		t.Error(x)
	}
}

func TestUndo(t *testing.T) {
	for _, c := range codes() {
		for _, at := range places() {
			var did []string
			x := fault.Undo(func() {
				defer func() { did = append(did, "left") }()
				did = append(did, "ahead")
				fault.Stop(c, at)
				did = append(did, "behind")
			}, func() { did = append(did, "back") })
			if x != (api.Fault{Code: c, At: at}) || !slices.Equal(did, []string{"ahead", "left", "back"}) {
				t.Errorf("Undo of Stop(%d, %d): %v, %v", c, at, x, did)
			}
		}
	}
}

func TestUndoOfWhatComesToItsEnd(t *testing.T) {
	n, back := 0, 0
	x := fault.Undo(func() {
		n++
		fault.Stop(api.OK, 5)
		n++
	}, func() { back++ })
	if x != (api.Fault{}) || n != 2 || back != 0 {
		t.Error(x, n, back)
	}
}

func TestUndoOfAStopThatWasCaughtWithin(t *testing.T) {
	back := 0
	x := fault.Undo(func() {
		fault.Catch(func() { fault.Check(api.ErrNull) })
	}, func() { back++ })
	if x != (api.Fault{}) || back != 0 {
		t.Error(x, back)
	}
}

func TestUndoWhoseWayBackStops(t *testing.T) {
	var did []string
	x := fault.Undo(func() { fault.Stop(api.ErrLong, 1) }, func() {
		did = append(did, "ahead")
		fault.Stop(api.ErrLog, -2)
		did = append(did, "behind")
	})
	if x != (api.Fault{Code: api.ErrLog, At: -2}) || !slices.Equal(did, []string{"ahead"}) {
		t.Error(x, did)
	}
}

func TestUndoWhoseWayBackComesToItsEnd(t *testing.T) {
	x := fault.Undo(func() { fault.Stop(api.ErrLong, 1) }, func() {
		fault.Stop(api.OK, 8)
		fault.Catch(func() { fault.Stop(api.ErrLog, 2) })
	})
	if x != (api.Fault{Code: api.ErrLong, At: 1}) {
		t.Error(x)
	}
}

func TestFirst(t *testing.T) {
	if k, x := fault.First(); k != -1 || x != (api.Fault{}) {
		t.Error(k, x)
	}
	for n := range 6 {
		for stops := range n + 1 {
			testFirst(t, n, stops)
		}
	}
}

// testFirst: of n functions those from the one with the number stops on would stop, each with a place of its own; with stops = n none does.
func testFirst(t *testing.T, n, stops int) {
	var calls, want []int
	var l []func()
	for i := range n {
		if i <= stops {
			want = append(want, i)
		}
		l = append(l, func() {
			calls = append(calls, i)
			if i >= stops {
				fault.Stop(api.ErrRange, i-2)
			}
		})
	}
	wantK, wantX := stops, api.Fault{Code: api.ErrRange, At: stops - 2}
	if stops == n {
		wantK, wantX = -1, api.Fault{}
	}
	k, x := fault.First(l...)
	if k != wantK || x != wantX || !slices.Equal(calls, want) {
		t.Errorf("%d functions, from %d on they stop: %d, %v, called %v", n, stops, k, x, calls)
	}
}

func TestInnermostEndsAlone(t *testing.T) {
	var did []string
	x := fault.Catch(func() {
		fault.Undo(func() {
			k, y := fault.First(func() {
				did = append(did, "first")
				fault.Stop(api.ErrNull, 1)
				did = append(did, "not")
			}, func() { did = append(did, "not") })
			if k != 0 || y != (api.Fault{Code: api.ErrNull, At: 1}) {
				t.Error(k, y)
			}
			did = append(did, "undo")
			fault.Stop(api.ErrType, 2)
			did = append(did, "not")
		}, func() { did = append(did, "back") })
		did = append(did, "catch")
		fault.Stop(api.ErrName, 3)
		did = append(did, "not")
	})
	if x != (api.Fault{Code: api.ErrName, At: 3}) || strings.Join(did, " ") != "first undo back catch" {
		t.Error(x, did)
	}
}

// What is left while a stop goes by may catch stops of its own: the one that goes by isn't ended by that.
func TestCatchWhileAStopGoesBy(t *testing.T) {
	within := []func(){
		func() { fault.Catch(func() {}) },
		func() { fault.Catch(func() { fault.Stop(api.ErrNull, 1) }) },
		func() { fault.Undo(func() { fault.Stop(api.ErrNull, 1) }, func() { fault.Stop(api.ErrNull, 2) }) },
		func() { fault.First(func() {}, func() { fault.Stop(api.ErrNull, 1) }) },
	}
	for i, w := range within {
		behind := 0
		x := fault.Catch(func() {
			func() {
				defer w()
				fault.Stop(api.ErrQuota, 11)
			}()
			behind++
		})
		if x != (api.Fault{Code: api.ErrQuota, At: 11}) || behind != 0 {
			t.Error(i, x, behind)
		}
	}
}

type likeFault struct {
	Code api.Errno
	At   int
}

type wrapped struct{ api.Fault }

// others are panics that aren't stops, though some come near to it.
func others() []any {
	return []any{
		"other", 7, errors.New("other"), api.ErrType, api.OK, &api.Fault{Code: api.ErrType, At: 3},
		likeFault{api.ErrType, 3}, wrapped{api.Fault{Code: api.ErrType, At: 3}}, [2]int{4, 3},
	}
}

// ways are all the ways in which a function is called by layer 1; not is called where nothing may be.
func ways(f, not func()) map[string]func() {
	stop := func() { fault.Stop(api.ErrSyntax, 1) }
	return map[string]func(){
		"Catch":       func() { fault.Catch(f) },
		"Undo":        func() { fault.Undo(f, not) },
		"Undo's back": func() { fault.Undo(stop, f) },
		"First":       func() { fault.First(f, not) },
		"First's end": func() { fault.First(func() {}, f) },
	}
}

func TestOtherPanicsGoOn(t *testing.T) {
	not := func() { t.Error("called behind a panic that isn't a stop") }
	for _, p := range others() {
		for name, w := range ways(func() { panic(p) }, not) {
			if r := raised(w); r != p {
				t.Errorf("%s of a panic with %#v: %#v goes on", name, p, r)
			}
			for outer, v := range ways(w, not) {
				if r := raised(v); r != p {
					t.Errorf("%s in %s of a panic with %#v: %#v goes on", name, outer, p, r)
				}
			}
		}
	}
}

func TestRuntimePanicsGoOn(t *testing.T) {
	not := func() { t.Error("called behind a panic that isn't a stop") }
	var none []int
	zero := len(none)
	for i, f := range []func(){
		func() { none[zero]++ },
		func() { zero = 1 / zero },
		func() { panic(any(nil)) },
	} {
		for name, w := range ways(f, not) {
			if _, ok := raised(w).(runtime.Error); !ok {
				t.Errorf("%s of panic %d: it doesn't go on", name, i)
			}
		}
	}
}

func TestOtherPanicBehindAStopGoesOn(t *testing.T) {
	for name, w := range ways(func() {
		defer func() { panic("other") }()
		fault.Stop(api.ErrType, 3)
	}, func() {}) {
		if r := raised(w); r != "other" {
			t.Errorf("%s: %#v goes on", name, r)
		}
	}
}
