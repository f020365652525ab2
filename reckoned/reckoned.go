// Package reckoned tells what operators tell of two numbers: the same in a term and in a net.
package reckoned

// Of is the number, or else the name of the constructor, that the operator of that name tells of a and b; false, if it fails. One that is not there tells 0.
func Of(name string, a, b int) (int, string, bool) {
	switch name {
	case "+":
		return a + b, "", true
	case "-":
		return a - b, "", true
	case "*":
		return a * b, "", true
	case "/":
		return quotient(a, b)
	case "<":
		return 0, truth(a < b), true
	case "==":
		return 0, truth(a == b), true
	}
	return 0, "", true
}

func quotient(a, b int) (int, string, bool) {
	if b == 0 {
		return 0, "", false
	}
	return a / b, "", true
}

func truth(is bool) string {
	if is {
		return "True"
	}
	return "False"
}
