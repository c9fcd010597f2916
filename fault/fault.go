// Package fault is layer 1: to give up by a panic, and to be caught where the face is: see shared/doc/01-fault.md.
package fault

import "tripwire/api"

// Stop gives up with a code and a place.
func Stop(c api.Errno, at int) {
	if c != api.OK {
		panic(api.Fault{Code: c, At: at})
	}
}

// Check gives up, if a code isn't OK.
func Check(c api.Errno) { Stop(c, 0) }

// Catch is the fault with which f gave up.
func Catch(f func()) api.Fault {
	x, _ := caught(f)
	return x
}

// Undo calls back, if f gave up.
func Undo(f, back func()) api.Fault {
	x, stopped := caught(f)
	if !stopped {
		return api.Fault{}
	}
	if y, again := caught(back); again {
		return y
	}
	return x
}

// First is the first function that gave up.
func First(l ...func()) (int, api.Fault) {
	for i, f := range l {
		if x, stopped := caught(f); stopped {
			return i, x
		}
	}
	return -1, api.Fault{}
}

// caught tells a stop by the panic itself, not by the fault's code, so that nobody who catches has to guess from it.
func caught(f func()) (x api.Fault, stopped bool) {
	defer func() {
		r := recover()
		if r == nil {
			return
		}
		if x, stopped = r.(api.Fault); !stopped {
			panic(r) // somebody else's: it isn't ours to end
		}
	}()
	f()
	return api.Fault{}, false
}
