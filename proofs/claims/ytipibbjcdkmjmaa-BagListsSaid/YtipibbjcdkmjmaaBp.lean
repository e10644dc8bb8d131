/- The project's layer 4: all its contracts together. Conditions: none of its own. -/
import Derived.Test.YtipibbjcdkmjmaaBr
namespace Go.Proofs.Ytipibbjcdkmjmaa
end Go.Proofs.Ytipibbjcdkmjmaa
