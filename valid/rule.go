package valid

import (
	"lych/api"
)

// rule tells the error of what it is held to, or api.OK. It holds what it asks, so that rules of different things stand in one list, in the order in which their errors count.
type rule func() api.Errno

// first tells the first error of these rules.
func first(rules []rule) api.Errno {
	for _, told := range rules {
		if err := told(); err != api.OK {
			return err
		}
	}
	return api.OK
}

// unless tells the rule that right must hold.
func unless(err api.Errno, right func() bool) rule {
	return func() api.Errno {
		if right() {
			return api.OK
		}
		return err
	}
}

// when tells the rule that wrong must not hold.
func when(err api.Errno, wrong func() bool) rule {
	return unless(err, func() bool { return !wrong() })
}
