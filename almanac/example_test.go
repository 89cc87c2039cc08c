package almanac_test

import (
	"fmt"

	"almanac/almanac"
	"almanac/api"
)

func Example() {
	s := almanac.New()
	s.Set("a", "use b; pub let x:int = 1 + y;")
	tree, errno := s.Ask(api.Tree, "a", "")
	fmt.Print(tree, errno, "\n")
	exports, errno := s.Ask(api.Exports, "a", "")
	fmt.Println(exports, errno)
	_, errno = s.Ask(api.Tree, "A", "")
	fmt.Println(errno == api.ErrName)
	// Output:
	// 1:use b
	// 5:pub x:int=(1+y)
	// 0
	// x 0
	// true
}
