/-
  The landed queue's calls against what is asked of them. Conditions: none.
-/
import Derived.Test.YtpbiigpnbhgilaaQcS
import Derived.Test.YtpbiigpnbhgilaaQcI
namespace Go.Proofs.Ytpbiigpnbhgilaa.Qu
open Go.RowKit

theorem the_codeS : CodeS faceCS where
  new n w _ := newS_any n w
  put b ms x s h w hx _ := putS_any b ms x s h w hx
  take b ms x h w hx := takeS_any b ms x h w hx
  peek b ms x h w hx := by
    obtain ⟨v, rfl, hv⟩ := hx
    exact (peekS_core b x v h w hv).mono fun _ _ ⟨h1, h2⟩ => ⟨h1, by rw [← h2]; exact Below.refl _ _⟩
  len b ms x h w hx := by
    obtain ⟨v, rfl, hv⟩ := hx
    exact lenS_core b x v h w hv
  room b ms x w hx := by
    obtain ⟨v, rfl, hv⟩ := hx
    exact roomS_core b x v w hv
  fault b ms x w hx := faultS_any b ms x w hx
  clear b ms x w hx := clearS_any b ms x w hx
theorem the_codeI : CodeI faceCI where
  new n w _ := newI_any n w
  put b ms x s h w hx _ := putI_any b ms x s h w hx
  take b ms x h w hx := takeI_any b ms x h w hx
  len b ms x h w hx := by
    obtain ⟨v, rfl, hv⟩ := hx
    exact lenI_core b x v h w hv
  room b ms x w hx := by
    obtain ⟨v, rfl, hv⟩ := hx
    exact roomI_core b x v w hv
  fault b ms x w hx := faultI_any b ms x w hx

end Go.Proofs.Ytpbiigpnbhgilaa.Qu
