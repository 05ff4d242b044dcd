/-
  What the rows' listed variables give the walks of layer 2's statements: the words, the powers of ten, errors.errorType. No condition.
-/
import Derived.Test.YtocfhejjmefmcaaDoorFaSpeak
import Derived.Test.YtocfhejjmefmcaaDoorLdVar
import Derived.Test.YtocfhejjmefmcaaDoorLeLaid
namespace Go.Proofs.YtocfhejjmefmcaaDoor.Laid
open Go.ChangeShapes Go.WideShapes Go.ChangeAt Go.RowKit
open Go.Proofs.YtocfhejjmefmcaaDoor.Fa (WordsAt wordsL Tab Laid)

theorem words_eq : (Rows.laid_posthorse_api_words : DataW Unit) = .agg (wordsL.map fun z => .lit (.string z)) := rfl
theorem pow_eq : (Rows.laid_internal_strconv_uint64pow10 : DataW Unit) = .agg (Lib.pow10Tab.map fun z => .lit (.int .u64 z)) := by kernel_rfl

theorem fault_laid {W : World} {n m : String} {l : List (String × DataW Unit)} {i j : Nat} (hl : (l.filter fun x => x.2.handleName?.isSome) = [("errors.errorType", Rows.laid_errors_errorType)])
    (hm : l[i]? = some (n, Rows.laid_posthorse_api_words)) (hg : Tryd.prog.globalNamed n = some 1)
    (hm2 : l[j]? = some (m, Rows.laid_internal_strconv_uint64pow10)) (hg2 : Tryd.prog.globalNamed m = some 2) (ht : Lib.TabIs Tryd.prog W m .u64 Lib.pow10Tab → Tab W) (h : laidMetH Tryd.prog l W) : Laid W := by
  refine ⟨?_, ht ?_, errT_of hl h⟩
  · intro r hr
    rw [words_eq] at hm
    exact laid_strs (len := 20) (t := 91) (e := 9) hm hg (by kernel_rfl) Tryd.underlying91 Tryd.underlying9 (by kernel_rfl) (by kernel_rfl) h r hr
  · rw [pow_eq] at hm2
    exact laid_tab (len := 20) (t := 128) (e := 121) hm2 hg2 (by kernel_rfl) Tryd.underlying128 Tryd.underlying121 (by kernel_rfl) (by kernel_rfl) h

end Go.Proofs.YtocfhejjmefmcaaDoor.Laid
