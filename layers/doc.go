// Package layers holds tests that go for all layers: that they have the calls of the document's chapters, and keep to the program's language.
package layers
