// Package clocks holds clocks against each other.
package clocks

// IsBehind asks whether a clock is more than a timeout behind another one; their difference may be more than 63 bits tell.
func IsBehind(then, now, timeout int64) bool {
	if now >= then {
		return timeout < 0 || uint64(now)-uint64(then) > uint64(timeout)
	}
	return timeout < 0 && uint64(then)-uint64(now) < -uint64(timeout)
}
