/-
  The law VmLoads, walked: it returns true. Conditions: none.
-/
import Derived.Test.YtbjmdehfdnpljaaVmWk
import Derived.Test.YtbjmdehfdnpljaaVrAll
namespace Go.Proofs.Ytbjmdehfdnpljaa.Vm
open Go.RowKit
open Go.Proofs.Ytbjmdehfdnpljaa.Il hiding Next S S_size S_app S_inj S_list
open Go.Proofs.Ytbjmdehfdnpljaa.Ic Go.Proofs.Ytbjmdehfdnpljaa.Ve
open Oct

theorem same_img (I Q M R : Bs) (W : World) : (Op.equalIn 10000 32 (.agg #[.string (S (fitL I)), .string (S (fitL Q)), .string (S (fitL M)), .string (S (fitL R))]) (.agg #[.string (S (fitL I)), .string (S (fitL Q)), .string (S (fitL M)), .string (S (fitL R))])).run Try.prog W = .ok true W :=
  img_same _ _ _ _ (fit_small I) (fit_small Q) (fit_small M) (fit_small R) W
theorem below_drewN (N : Nat) (W : World) (k : Nat) : Below N W (W.drewN k) := ⟨rfl, rfl, rfl, Nat.le_refl _, fun _ _ => rfl⟩
/-- Areas, and how a run ran, in two blocks behind a world. -/
structure Tw (w W : World) (a b : Nat) (s0 s1 s2 s3 : ByteArray) (i0 i1 i2 i3 : Int) : Prop where
  c0 : W.cell? ⟨a, 0, none⟩ = some (.string s0)
  c1 : W.cell? ⟨a, 1, none⟩ = some (.string s1)
  c2 : W.cell? ⟨a, 2, none⟩ = some (.string s2)
  c3 : W.cell? ⟨a, 3, none⟩ = some (.string s3)
  d0 : W.cell? ⟨b, 0, none⟩ = some (.int .i64 i0)
  d1 : W.cell? ⟨b, 1, none⟩ = some (.int .i64 i1)
  d2 : W.cell? ⟨b, 2, none⟩ = some (.int .i64 i2)
  d3 : W.cell? ⟨b, 3, none⟩ = some (.int .i64 i3)
  below : Below w.heap.size w W
section
variable {w W W' : World} {a b : Nat} {s0 s1 s2 s3 : ByteArray} {i0 i1 i2 i3 : Int}
theorem Tw.kept (h : Tw w W a b s0 s1 s2 s3 i0 i1 i2 i3) (hb : Below W.heap.size W W') : Tw w W' a b s0 s1 s2 s3 i0 i1 i2 i3 :=
  ⟨kept_cell hb h.c0, kept_cell hb h.c1, kept_cell hb h.c2, kept_cell hb h.c3, kept_cell hb h.d0, kept_cell hb h.d1, kept_cell hb h.d2, kept_cell hb h.d3, h.below.trans (hb.mono h.below.size)⟩
theorem Tw.drew (h : Tw w W a b s0 s1 s2 s3 i0 i1 i2 i3) : Tw w W.drew a b s0 s1 s2 s3 i0 i1 i2 i3 := ⟨h.c0, h.c1, h.c2, h.c3, h.d0, h.d1, h.d2, h.d3, h.below.drew⟩
theorem Tw.new (hb : Below w.heap.size w W) : Tw w ((W.alloc (.cells #[.string s0, .string s1, .string s2, .string s3] 32)).alloc (.cells #[.int .i64 i0, .int .i64 i1, .int .i64 i2, .int .i64 i3] 34)) W.heap.size (W.heap.size + 1) s0 s1 s2 s3 i0 i1 i2 i3 := by
  have h1 := heap_alloc_new W (.cells #[.string s0, .string s1, .string s2, .string s3] 32)
  have h2 := heap_alloc_new (W.alloc (.cells #[.string s0, .string s1, .string s2, .string s3] 32)) (.cells #[.int .i64 i0, .int .i64 i1, .int .i64 i2, .int .i64 i3] 34)
  rw [show (W.alloc (.cells #[.string s0, .string s1, .string s2, .string s3] 32)).heap.size = W.heap.size + 1 by simp] at h2
  have h3 := (heap_alloc_old (W.alloc (.cells #[.string s0, .string s1, .string s2, .string s3] 32)) (.cells #[.int .i64 i0, .int .i64 i1, .int .i64 i2, .int .i64 i3] 34) (r := W.heap.size) (by simp)).trans h1
  refine ⟨?_, ?_, ?_, ?_, ?_, ?_, ?_, ?_, (hb.alloc hb.size _).alloc (by have := hb.size; simp; omega) _⟩
  · rw [cell_of_row _ _ _ _ _ (0, 0) h3]; rfl
  · rw [cell_of_row _ _ _ _ _ (0, 0) h3]; rfl
  · rw [cell_of_row _ _ _ _ _ (0, 0) h3]; rfl
  · rw [cell_of_row _ _ _ _ _ (0, 0) h3]; rfl
  · rw [cell_of_row _ _ _ _ _ (0, 0) h2]; rfl
  · rw [cell_of_row _ _ _ _ _ (0, 0) h2]; rfl
  · rw [cell_of_row _ _ _ _ _ (0, 0) h2]; rfl
  · rw [cell_of_row _ _ _ _ _ (0, 0) h2]; rfl
end
set_option maxRecDepth 100000 in
set_option maxHeartbeats 8000000 in
theorem loads_walk (l : List In) (ao : Option Addr) (cap : Nat) (w : World) (hI : Lies w w.heap.size ao l) (hF : FitL l) (hm : l.length ≤ maxLen) (hcap : ao = none → cap = 0) :
    Calls Try.prog 3 #[.slice ao l.length cap] w (Tells (.bool true) w) := by
  have HF := Lib.hid hF
  have HM := Lib.hid hm
  have HA := Lib.hid (At.first hI)
  have hmi : (l.length : Int) ≤ 9223372036854775807 := by unfold maxLen at hm; omega
  clear hI hF hm
  by_cases h210 : (210 : Int) < l.length
  · clear hcap
    go_enter Try.func3, Try.ntmps3
    go_wp2_with fail
    with_reducible refine (wake_any _).mono ?_
    rintro e w1 ⟨rfl, hb1⟩
    have HA1 := Lib.hid (HA.out.next hb1)
    clear hb1 HA
    go_wp2
    go_ret
    exact ⟨rfl, HA1.out.below⟩
  · have HR : Hid (∀ W, At w W ao l → Calls Try.prog 10 #[.slice ao l.length cap] W (Alls W l)) := fun W h => rAll_any l ao cap W h.lies HF.out HM.out
    unfold Alls at HR
    rcases all_cases l with ⟨r, k, h, hr, hr2, hk2⟩ | ⟨s, h, hw, hl, h200⟩
    · have hck := chk_err h
      have HL := Lib.hid (fun W (h : At w W ao l) => load_no l ao cap W h.lies HF.out (by omega) (by rw [hck]; dsimp only; omega))
      rw [hck] at HL
      rw [h] at HR
      dsimp only at HL HR
      have hrb : ((r : Int) == 0) = false := by rw [beq_eq_false_iff_ne]; omega
      have hrw : IntKind.i64.wrap ((r : Nat) : Int) = (r : Nat) := by rw [IntKind.wrap_i64]; omega
      have hrr : ((r : Int) != (r : Int)) = false := by simp
      have hkk : ((k : Int) != (k : Int)) = false := by simp
      have HN : Hid (∀ W, Calls Try.prog 11 #[.pointer none, .agg #[.string ⟨#[97, 98]⟩, .string ⟨#[]⟩, .string ⟨#[]⟩, .string ⟨#[]⟩], .int .i64 5] W (Tells (.tuple #[imgV (fitL [97, 98]) (fitL []) (fitL []) (fitL []), .agg #[.int .i64 0, .int .i64 0, .int .i64 0, .int .i64 0]]) W)) := fun W => cRun_nil [97, 98] [] [] [] 5 W
      have HT : Hid (∀ W, Calls Try.prog 13 #[.agg #[.string ⟨#[97, 98]⟩, .string ⟨#[]⟩, .string ⟨#[]⟩, .string ⟨#[]⟩]] W (Tells (imgV (fitL [97, 98]) (fitL []) (fitL []) (fitL [])) W)) := fun W => cFit_any [97, 98] [] [] [] W
      have HO := Lib.hid (fun W => cCode_nil W)
      have hsc := scan_same 0 0 0 0 (by decide) (by decide) (by decide) (by decide)
      have hgs := Try.guardScan
      have him := same_img [97, 98] [] [] []
      have hgi := Try.guardImg
      unfold imgV at HN HT
      generalize fitL [97, 98] = fI at *
      generalize fitL [] = fN at *
      clear h hr hck
      go_enter Try.func3, Try.ntmps3
      go_wp2_with fail
      with_reducible refine (wake_any _).mono ?_
      rintro e w1 ⟨rfl, hb1⟩
      have HA1 := Lib.hid (HA.out.next hb1)
      clear hb1 HA
      go_wp2_with fail
      with_reducible refine (HL.out _ HA1.out).mono ?_
      rintro e w2 ⟨rfl, hb1⟩
      have HA2 := Lib.hid (HA1.out.next hb1)
      clear hb1 HA1
      go_wp2_with fail
      with_reducible refine (HR.out _ HA2.out).mono ?_
      rintro e w3 ⟨rfl, hb1⟩
      have HA3 := Lib.hid (HA2.out.next hb1)
      clear hb1 HA2
      go_wp2_with fail
      with_reducible refine (HN.out _).mono ?_
      rintro e w4 ⟨rfl, hb1⟩
      have HT0 := Lib.hid (Tw.new (W := w4) (s0 := S fI) (s1 := S fN) (s2 := S fN) (s3 := S fN) (i0 := 0) (i1 := 0) (i2 := 0) (i3 := 0) (HA3.out.next hb1).below)
      clear hb1 HA3
      go_wp2_with fail
      refine world_cutR (G := fun W => Code.wp _ _ _ _ W) (fun W => Tw w W w4.heap.size (w4.heap.size + 1) (S fI) (S fN) (S fN) (S fN) 0 0 0 0) HT0.out ?_
      rintro W hW
      have hP1 := Lib.hid hW.drew
      clear hW HT0
      generalize w4.heap.size = a at *
      go_region_held3 (fun W' => W'.cell? ⟨a, 0, none⟩ = some (.string (S fI)) ∧ W'.cell? ⟨a, 1, none⟩ = some (.string (S fN)) ∧ W'.cell? ⟨a, 2, none⟩ = some (.string (S fN)) ∧ W'.cell? ⟨a, 3, none⟩ = some (.string (S fN)) ∧ W'.cell? ⟨a + 1, 0, none⟩ = some (.int .i64 0) ∧ W'.cell? ⟨a + 1, 1, none⟩ = some (.int .i64 0) ∧ W'.cell? ⟨a + 1, 2, none⟩ = some (.int .i64 0) ∧ W'.cell? ⟨a + 1, 3, none⟩ = some (.int .i64 0))
        (exact ⟨hP1.out.c0, hP1.out.c1, hP1.out.c2, hP1.out.c3, hP1.out.d0, hP1.out.d1, hP1.out.d2, hP1.out.d3⟩)
        ((first | (go_at_call 12; (with_reducible refine (HO.out _).mono ?_); rintro e w5 ⟨rfl, hb5⟩; have hP2 := Lib.hid (hP1.out.kept hb5); clear hb5 hP1; have hP1 := hP2; clear hP2) | (go_at_call 13; (with_reducible refine (HT.out _).mono ?_); rintro e w6 ⟨rfl, hb6⟩; have hP2 := Lib.hid (hP1.out.kept hb6); clear hb6 hP1; have hP1 := hP2; clear hP2)))
      all_goals
        go_wp2
        go_ret
        exact ⟨rfl, hP1.out.below⟩
    · have hz : (chkB l).1 = 0 := by rw [chk_ok h]
      have HL := Lib.hid (fun W (h : At w W ao l) => load_ok l ao cap W h.lies HF.out hcap (by omega) hz)
      have HO := Lib.hid (fun W N pb v (h : PAt W N pb v l) => cCode_any W h (by omega))
      have HS := Lib.hid (fun (a1 : Option Addr) c1 W (h1 : Lies W W.heap.size a1 l) (h2 : At w W ao l) => rSame_any l a1 ao c1 cap W h1 h2.lies (by omega))
      rw [h] at HR
      dsimp only at HR
      obtain ⟨n, hn⟩ : ∃ n, n = l.length := ⟨_, rfl⟩
      rw [← hn] at HL HR HS ⊢
      have hn2 : (n : Int) ≤ 210 := by omega
      have HNL := Lib.hid hn
      clear h hw hl h200 h210 hn hmi hz
      go_enter Try.func3, Try.ntmps3
      go_wp2_with fail
      with_reducible refine (wake_any _).mono ?_
      rintro e w1 ⟨rfl, hb1⟩
      have HA1 := Lib.hid (HA.out.next hb1)
      clear hb1 HA
      go_wp2_with fail
      with_reducible refine (HL.out _ HA1.out).mono ?_
      rintro e w2 ⟨pb, v, rfl, hp, hb1⟩
      have HA2 := Lib.hid (HA1.out.next hb1)
      have HP2 := Lib.hid hp
      clear hb1 HA1 hp
      go_wp2_with fail
      with_reducible refine (HR.out _ HA2.out).mono ?_
      rintro e w3 ⟨g, rfl, hR, hb1⟩
      have HA3 := Lib.hid (HA2.out.next hb1)
      have HP3 := Lib.hid (HP2.out.kept hb1)
      clear hb1 HA2 hR HP2
      go_wp2_with fail
      with_reducible refine (HO.out _ _ _ _ HP3.out).mono ?_
      rintro e w4 ⟨v, rfl, ho, hb1⟩
      have HA4 := Lib.hid (HA3.out.next hb1)
      obtain ⟨a1, c1, hv, hL1, -⟩ := own_slice ho
      rw [← HNL.out] at hv
      subst hv
      have HL1 := Lib.hid hL1
      clear hb1 HA3 hL1 ho HP3
      go_wp2_with fail
      with_reducible refine (HS.out _ _ _ HL1.out HA4.out).mono ?_
      rintro e w5 ⟨rfl, k, rfl⟩
      go_wp2
      go_ret
      exact ⟨rfl, HA4.out.below.trans (below_drewN _ _ _)⟩

end Go.Proofs.Ytbjmdehfdnpljaa.Vm
