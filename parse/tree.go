package parse

import "fathomline/api"

// tree is an expression or a part of one, as it was read. The terms of a sum and
// the factors of a term are lists, so that a tree is only as deep as parentheses
// are, however long the text is.
type tree interface{ isTree() }

// number is a number, or the error that evaluating it returns.
type number struct {
	c   api.Num
	err api.Errno
}

// variable is the variable of this number, from 0.
type variable int

// power is base to the power exp.
type power struct {
	base tree
	exp  int
}

// sum has at least one term.
type sum []term

// term is the product of its factors, of which there is at least one. It is
// subtracted if minus is true.
type term struct {
	minus   bool
	factors []tree
}

func (number) isTree()   {}
func (variable) isTree() {}
func (power) isTree()    {}
func (sum) isTree()      {}
