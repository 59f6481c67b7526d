/-
  The landed code's asked, store, rise, join, walked. Conditions: as each states.
-/
import Derived.Test.YtbjmdehfdnpljaaVmCalls
namespace Go.Proofs.Ytbjmdehfdnpljaa.Vm
open Go.RowKit
open Go.Proofs.Ytbjmdehfdnpljaa.Il hiding Next S S_size S_app S_inj S_list
open Go.Proofs.Ytbjmdehfdnpljaa.Ic Go.Proofs.Ytbjmdehfdnpljaa.Ve
open Oct

/-- The place that an instruction reads lies within. -/
def AskOk (i : In) : Prop := i.ar = 0 ∨ (1 ≤ i.ar ∧ i.ar ≤ 4 ∧ 0 ≤ i.pl ∧ i.pl + szI i.kd ≤ 64 ∧ szI i.kd ≠ 0)
theorem ask_ok {i : In} (hr : rightI i = true) (ho : readsB i.op = true) : AskOk i := by
  have ho' := ho
  unfold readsB at ho'
  rw [decide_eq_true_iff] at ho'
  cases right_way hr with
  | lit h ha hp hn => exact .inl ha
  | get h h1 h4 ht hn =>
    unfold thereB at ht
    rw [decide_eq_true_iff] at ht
    exact .inr ⟨h1, h4, ht.2.1, ht.2.2, ht.1⟩
  | put h => unfold writesB at h; rw [decide_eq_true_iff] at h; omega
  | jump h => unfold jumpB at h; rw [decide_eq_true_iff] at h; omega
  | bare h => unfold bareB at h; rw [decide_eq_true_iff] at h; omega
  | close h => omega
  | conv h => omega
  | opens h => omega
  | timer h => omega
  | trig h => omega
/-- The run, and an instruction in a block of its own; nothing that was has turned. -/
structure Rb (N g : Nat) (p : Int) (s : St) (ov : Value) (w : World) (b : Nat) (i : In) (W : World) : Prop where
  at_ : RunAt W N g p s ov
  bi : Bi W b i
  below : Below w.heap.size w W
section
variable {N g : Nat} {p : Int} {s : St} {ov : Value} {w W W' : World} {b : Nat} {i : In}
theorem Rb.new (h : RunAt w N g p s ov) (i : In) (t : TypeId) : Rb N g p s ov w w.heap.size i (w.alloc (.cells #[.int .i64 i.op, .int .i64 i.kd, .int .i64 i.ar, .int .i64 i.pl, .int .i64 i.n] t)) := ⟨h.alloc _, Bi.new w i t, one_S _ _ _⟩
theorem Rb.drew (h : Rb N g p s ov w b i W) : Rb N g p s ov w b i W.drew := ⟨h.at_.drew, h.bi, h.below.drew⟩
theorem Rb.next (h : Rb N g p s ov w b i W) (hb : Below W.heap.size W W') : Rb N g p s ov w b i W' := ⟨h.at_.kept hb, h.bi.next hb, h.below.trans (hb.mono h.below.size)⟩
theorem rbS (h : Rb N g p s ov w b i W) : W.cell? ⟨b, 1, none⟩ = some (.int .i64 i.kd) ∧ W.cell? ⟨b, 2, none⟩ = some (.int .i64 i.ar) ∧ W.cell? ⟨b, 3, none⟩ = some (.int .i64 i.pl) ∧ W.cell? ⟨b, 4, none⟩ = some (.int .i64 i.n) ∧ Rb N g p s ov w b i W :=
  ⟨h.bi.2.1, h.bi.2.2.1, h.bi.2.2.2.1, h.bi.2.2.2.2, h⟩
theorem world_cutR {G : World → Prop} {w : World} (F : World → Prop) (h : F w) (k : ∀ W, F W → G W) : G w := k w h
end
section
variable {N g : Nat} {p : Int} {s : St} {ov : Value}
set_option maxRecDepth 100000 in
set_option maxHeartbeats 4000000 in
theorem cAsked_any (w : World) (h : RunAt w N g p s ov) (i : In) (hi : AskOk i) :
    Calls Try.prog 40 #[.pointer (some ⟨g, 0, none⟩), insV i] w (Tells (.int .i64 (askI i s)) w) := by
  have H0 := Lib.hid (one_S w #[.int .i64 i.op, .int .i64 i.kd, .int .i64 i.ar, .int .i64 i.pl, .int .i64 i.n] 54)
  unfold askI insV
  obtain ⟨op, kd, ar, pl, n⟩ := i
  unfold AskOk at hi
  dsimp only at *
  rcases hi with h0 | ⟨h1, h4, h0, hk, hs⟩
  · subst h0
    rw [if_pos rfl]
    clear h
    go_enter Try.func40, Try.ntmps40
    go_wp2
    go_ret
    exact ⟨rfl, H0.out⟩
  · rw [if_neg (by omega)]
    have hne : (ar == 0) = false := by simp; omega
    have HG := Lib.hid (fun W (h : RunAt W N g p s ov) => cAget_any W h ar pl kd h1 h4 h0 hk hs)
    have HR := Lib.hid (Rb.new h ⟨op, kd, ar, pl, n⟩ 54)
    clear h1 h4 h0 hk hs h H0
    generalize gtV s ar pl kd = V at *
    go_enter Try.func40, Try.ntmps40
    go_wp2
    refine world_cutR (G := fun W => Code.wp _ _ _ _ W) (fun W => Rb N g p s ov w w.heap.size ⟨op, kd, ar, pl, n⟩ W) HR.out ?_
    rintro W hW
    obtain ⟨c1, c2, c3, c4, hW⟩ := rbS hW
    dsimp only at c1 c2 c3 c4
    clear HR
    generalize w.heap.size = b at *
    go_region_held3 (fun W' => W'.cell? ⟨b, 1, none⟩ = some (.int .i64 kd) ∧ W'.cell? ⟨b, 2, none⟩ = some (.int .i64 ar) ∧ W'.cell? ⟨b, 3, none⟩ = some (.int .i64 pl) ∧ W'.cell? ⟨b, 4, none⟩ = some (.int .i64 n) ∧ Rb N g p s ov w b ⟨op, kd, ar, pl, n⟩ W')
      (first | exact rbS ‹Rb N g p s ov w b ⟨op, kd, ar, pl, n⟩ _› | exact rbS (Rb.drew ‹Rb N g p s ov w b ⟨op, kd, ar, pl, n⟩ _›))
      (first | (go_at_call 59; have hS := ‹_ ∧ _ ∧ _ ∧ _ ∧ Rb _ _ _ _ _ _ _ _ _›; (with_reducible refine (HG.out _ hS.2.2.2.2.at_).mono ?_); rintro e w1 ⟨rfl, hb1⟩; have hx := hS.2.2.2.2.next hb1))
    all_goals
      go_wp2
      go_ret
      exact ⟨rfl, hx.below⟩
theorem Now.drew {N g : Nat} {p : Int} {s : St} {ov ov' : Value} {w w' : World} (h : Now N g p s ov w w' ov') : Now N g p s ov w w'.drew ov' := ⟨h.at_.drew, ⟨h.kp.os, h.kp.tape, h.kp.output, h.kp.size, h.kp.block⟩, h.row⟩
theorem is_i64 {k v : Int} (h : isI k v = true) : -9223372036854775808 ≤ v ∧ v ≤ 9223372036854775807 := by have := is_bd h; omega
set_option maxRecDepth 100000 in
set_option maxHeartbeats 4000000 in
theorem cRise_any (w : World) (h : RunAt w N g p s ov) (a pl : Int) (h1 : 1 ≤ a) (h4 : a ≤ 4) (hp : 0 ≤ pl) (hk : pl + 1 ≤ 64) (hv : isI 1 s.v = true) :
    Calls Try.prog 47 #[.pointer (some ⟨g, 0, none⟩), .int .i64 a, .int .i64 pl] w fun e w' => e = .returned (.int .i64 (yesI (decide (s.v = 1 ∧ gtV s a pl 1 = 0)))) ∧ Now N g p (ptV s a pl 1 s.v) ov w w' ov := by
  have HG := Lib.hid (cAget_any w h a pl 1 h1 h4 hp (by rw [show szI 1 = 1 from rfl]; omega) (by decide))
  have HP := Lib.hid (fun W (h : RunAt W N g p s ov) => cAput_any W h a pl 1 s.v h1 h4 hp (by rw [show szI 1 = 1 from rfl]; omega) (by decide) (is_i64 hv).1 (is_i64 hv).2)
  have HT := Lib.hid (fun b W => cVtruth_any b W)
  have h0 := Lib.hid h
  have hs' : (ptV s a pl 1 s.v).v = s.v := rfl
  generalize ptV s a pl 1 s.v = s' at *
  have hv01 := is_bool hv
  generalize gtV s a pl 1 = G at *
  have hcs : (s.v = 0 ∧ decide (s.v = 1 ∧ G = 0) = false) ∨ (s.v = 1 ∧ (G == 0) = true ∧ decide (s.v = 1 ∧ G = 0) = true) ∨ (s.v = 1 ∧ (G == 0) = false ∧ decide (s.v = 1 ∧ G = 0) = false) := by
    rcases hv01 with e | e
    · exact .inl ⟨e, by rw [e]; rfl⟩
    · by_cases hG : G = 0
      · exact .inr (.inl ⟨e, by simpa using hG, by simp [e, hG]⟩)
      · exact .inr (.inr ⟨e, by simpa using hG, by simp [hG]⟩)
  have hc0 := h.val
  clear hv01 hv h hk hp h1 h4
  rcases hcs with ⟨e, hd⟩ | ⟨e, hg, hd⟩ | ⟨e, hg, hd⟩
  all_goals
    rw [hd]
    clear hd
    replace e := Lib.hid e
    go_enter Try.func47, Try.ntmps47
    go_wp2_with fail
    refine HG.out.mono ?_
    rintro e w1 ⟨rfl, hb1⟩
    have N1 := Lib.hid (Now.same h0.out hb1)
    clear hb1
    have hc1 := N1.out.at_.val
    go_wp2_with fail
    go_region_with (first | (go_at_call 63; (with_reducible refine (HP.out _ N1.out.at_.drew).mono ?_); rintro e w2 ⟨rfl, hn2⟩; have N2 := Lib.hid (N1.out.drew.trans hn2)))
    all_goals
      have hc2 := N2.out.at_.val
      rw [hs', e.out] at hc2
      clear hn2 N1 HP HG h0 hc1 hs' e hc0
      go_wp2_with fail
      refine (HT.out _ _).mono ?_
      rintro e w3 ⟨rfl, hb3⟩
      have N3 := Lib.hid (N2.out.next hb3)
      clear hb3
      go_wp2
      go_ret
      exact ⟨rfl, N3.out⟩

end
end Go.Proofs.Ytbjmdehfdnpljaa.Vm
