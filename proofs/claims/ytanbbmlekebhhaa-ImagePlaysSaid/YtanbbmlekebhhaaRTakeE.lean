/- 'Take' of any bytes. -/
import Derived.Test.YtanbbmlekebhhaaRTakeC
import Derived.Test.YtanbbmlekebhhaaRTakeD
import Derived.Test.YtanbbmlekebhhaaRLs
namespace Go.Proofs.Ytanbbmlekebhhaa
open Go.RowKit Go.Deep Math
theorem take_is : TakeIs := by
  intro a n cap l hcap w h
  cases hE : ended l with
  | true => rw [show take l = .none by simp [take, hE]]; exact take_none a n cap l w h hE
  | false =>
    cases hF : form1 l with
    | false => rw [show take l = .bad by simp [take, hE, hF]]; exact take_bad1 a n cap l hcap w h hE hF
    | true =>
      cases hG : form2 l with
      | false => rw [show take l = .bad by simp [take, hE, hF, hG]]; exact take_bad2 a n cap l hcap w h hE hF hG
      | true =>
        rw [show take l = .ok (tkItem l) (tkLen l) by simp [take, hE, hF, hG]]
        by_cases hc : cap = 32 + tkKey l
        · exact take_good2 a n cap l hcap w h hE hF hG hc
        · exact take_good1 a n cap l hcap w h hE hF hG hc
end Go.Proofs.Ytanbbmlekebhhaa
