/- All the tokens: what the reference's All answers. -/
import Derived.Test.YtdibkgjldmepcaaDoorLexR3
namespace Go.Proofs.YtdibkgjldmepcaaDoor.Lex
open Go.RowKit Mem
set_option linter.unusedVariables false

end Go.Proofs.YtdibkgjldmepcaaDoor.Lex
