/-
  A subscriber's Put and NewSub: walked. Conditions: as each states.
-/
import Derived.Test.YtbfjimbffpkkhaaGdSub
namespace Go.Proofs.Ytbfjimbffpkkhaa.Pa
open Go.RowKit

structure Sx (w W : World) (R b q n : Nat) (s : Sb) (xb : Bs) (xi xs : Nat) (f : Fr) : Prop where
  sub : SubV W b q n s xb xi xs
  box : FrAt W R 0 f
  only : OnlyL [b, q] w W
  rb : R ≠ b
  rq : R ≠ q
section
variable {w W W' : World} {R b q n xi xs : Nat} {s : Sb} {xb : Bs} {f : Fr}
theorem Sx.drew (h : Sx w W R b q n s xb xi xs f) : Sx w W.drew R b q n s xb xi xs f := ⟨h.sub.drew, h.box, h.only.drew, h.rb, h.rq⟩
theorem Sx.glue {g' : Gl} (h : Sx w W R b q n s xb xi xs f) (ho : OnlyL [q] W W') (hg : GAt W' q n g') : Sx w W' R b q n { s with gl := g' } xb xi xs f :=
  ⟨h.sub.glue ho hg, h.box.only ho (by simpa using h.rq), h.only.trans ho (fun j hj => .inl (by simp at hj; simp [hj])), h.rb, h.rq⟩
end
theorem S_nil : S [] = ⟨#[]⟩ := rfl

attribute [local go_sem ↓] exec_ldF
set_option maxRecDepth 100000 in
set_option maxHeartbeats 4000000 in
theorem cSPut_nil (f : Fr) (w : World) : Calls Try.prog 16 #[.pointer none, .agg (frA f)] w (Tells (.tuple #[.bool false, .int .i64 1]) w) := by
  have hb := Lib.hid (one_S w (frA f) 33)
  go_enter Try.func16, Try.ntmps16
  go_wp2
  go_ret2
  exact ⟨rfl, hb.out⟩
set_option maxRecDepth 100000 in
set_option maxHeartbeats 4000000 in
theorem cSPut (b q n : Nat) (s : Sb) (f : Fr) (w : World) (h : SubAt w b q n s) (hw : WS n s) (hf : FitF f) (hl : f.bytes.length ≤ maxLen) :
    Calls Try.prog 16 #[.pointer (some ⟨b, 0, none⟩), .agg (frA f)] w fun e w' => e = .returned (.tuple #[.bool (doneB n s.gl f), .int .i64 (errB n s.gl f : Nat)]) ∧ SubAt w' b q n (putS n s f) ∧ OnlyL [b, q] w w' := by
  obtain ⟨xb, xi, xs, h⟩ := h
  have hblt := h.lt
  have HX := Lib.hid (show Sx w (w.alloc (.cells (frA f) 33)) w.heap.size b q n s xb xi xs f from
    ⟨h.below (one_S _ _ _), FrAt.new _ _ _, OnlyL.of_below (one_S _ _ _), by have := h.lt; omega, by have := h.gl.lt; omega⟩)
  have HP := Lib.hid (fun W (hg : GAt W q n s.gl) => cPut q n s.gl f W hg hw.gl ⟨hw.n1, hw.n64⟩ hf hl)
  clear h hf hl hw
  have HU := Lib.hid (show putV n s.gl f = .tuple #[.string (S (outB n s.gl f)), .bool (doneB n s.gl f), .int .i64 (errB n s.gl f : Nat)] from rfl)
  have HS := Lib.hid (show putS n s f = ⟨putG n s.gl f, s.front, s.fi, s.fs, if doneB n s.gl f then outB n s.gl f else s.beh, if doneB n s.gl f then f.vinc else s.bi, if doneB n s.gl f then f.vseq else s.bs, s.waits || doneB n s.gl f, s.fault || decide (errB n s.gl f = 3)⟩ from rfl)
  have HD := Lib.hid (show doneB n s.gl f = true → errB n s.gl f = 0 from fun h => by
    unfold doneB at h
    rw [Bool.and_eq_true, decide_eq_true_iff] at h
    exact h.1)
  have HLd := Lib.hid (fun W R (h : FrAt W R 0 f) => h.ld)
  generalize putS n s f = s' at *
  generalize putV n s.gl f = V at *
  generalize hXf : frA f = X at *
  replace hXf := Lib.hid hXf
  go_enter Try.func16, Try.ntmps16
  go_wp2
  refine world_cut (G := fun W => Code.wp _ _ _ _ W) (fun W => Sx w W w.heap.size b q n s xb xi xs f) (by exact HX.out) ?_
  rintro W hW
  have HW := Lib.hid hW
  clear HX
  generalize hR : w.heap.size = R at *
  have HR := Lib.hid hR
  have c0 := hW.sub.c0
  have hx := HLd.out W R hW.box
  have hG := hW.drew
  clear hR hW
  go_region_held3 (fun W' => W'.cell? ⟨b, 0, none⟩ = some (.pointer (some ⟨q, 0, none⟩)) ∧ ldF (.pointer (some ⟨R, 0, none⟩)) W' = .ok (.value (.agg X)) W') (first | exact ⟨c0, hx⟩ | exact ⟨hG.sub.c0, HLd.out _ _ hG.box⟩)
    ((go_at_call 32; refine (HP.out _ hG.sub.gl).mono ?_; rintro e w2 ⟨rfl, hg2, ho2⟩; have hG2 := hG.glue ho2 hg2; clear hG hg2 ho2; have hG := hG2; clear hG2; rw [HU.out]))
  have HG := Lib.hid hG
  clear hG HW HP c0 hx
  cases hd : doneB n s.gl f
  · have HD0 := Lib.hid hd
    rw [hd] at HS
    have HS' : Hid (s' = ⟨putG n s.gl f, s.front, s.fi, s.fs, s.beh, s.bi, s.bs, s.waits, s.fault || decide (errB n s.gl f = 3)⟩) := Lib.hid (by rw [HS.out]; simp)
    clear HS HD hd
    by_cases he : errB n s.gl f = 3
    · have HE := Lib.hid he
      rw [he] at HS'
      have h8 := HG.out.sub.c8
      have f8 := HG.out.sub.free 8
      have HK := Lib.hid (show SubAt (w2.setCell ⟨b, 8, none⟩ (.bool true)) b q n s' ∧ OnlyL [b, q] w (w2.setCell ⟨b, 8, none⟩ (.bool true)) from by
        have k := HG.out.sub.flt true
        rw [HS'.out]
        simp only [decide_true, Bool.or_true]
        exact ⟨⟨_, _, _, k⟩, HG.out.only.tr (OnlyL.set (by simp) _ _)⟩)
      have e3 : ((3 : Nat) : Int) = 3 := rfl
      rw [he]
      simp only [e3]
      clear he
      go_wp2
      go_ret2
      exact ⟨by rw [HD0.out, HE.out]; rfl, HK.out.1, HK.out.2⟩
    · have e3 : (((errB n s.gl f : Nat) : Int) == 3) = false := by rw [beq_eq_false_iff_ne]; omega
      have HK := Lib.hid (show SubAt w2 b q n s' ∧ OnlyL [b, q] w w2 from by
        rw [HS'.out, decide_eq_false he, Bool.or_false]
        exact ⟨⟨_, _, _, HG.out.sub⟩, HG.out.only⟩)
      clear he
      go_wp2
      go_ret2
      exact ⟨by rw [HD0.out]; rfl, HK.out.1, HK.out.2⟩
  · have he := HD.out hd
    have HE := Lib.hid (⟨hd, he⟩ : _ ∧ _)
    rw [hd, he] at HS
    have HS' : Hid (s' = ⟨putG n s.gl f, s.front, s.fi, s.fs, outB n s.gl f, f.vinc, f.vseq, true, s.fault⟩) := Lib.hid (by rw [HS.out]; simp)
    have h4 := HG.out.sub.c4
    have h5 := HG.out.sub.c5
    have h6 := HG.out.sub.c6
    have h7 := HG.out.sub.c7
    have f4 := HG.out.sub.free 4
    have f5 := HG.out.sub.free 5
    have f6 := HG.out.sub.free 6
    have f7 := HG.out.sub.free 7
    have x14 := HG.out.box.at 14 rfl
    have x15 := HG.out.box.at 15 rfl
    have HK := Lib.hid (HG.out.sub.hold (outB n s.gl f) f.vinc f.vseq)
    rw [he]
    simp only [show ((0 : Nat) : Int) = 0 from rfl]
    clear HS HD hd he
    go_wp2
    go_ret2
    exact ⟨by rw [HE.out.1, HE.out.2]; rfl, ⟨_, _, _, by rw [HS'.out]; exact HK.out⟩, HG.out.only.tr ((((OnlyL.set (by simp) _ _).tr (OnlyL.set (by simp) _ _)).tr (OnlyL.set (by simp) _ _)).tr (OnlyL.set (by simp) _ _))⟩

/-! ### NewSub -/
set_option maxRecDepth 100000 in
set_option maxHeartbeats 2000000 in
theorem cNewSub_no (n : Int) (v : ByteArray) (w : World) (h : partsN n = 0) : Calls Try.prog 15 #[.int .i64 n, .string v] w (fun e w' => e = .returned (.pointer none) ∧ w = w') := by
  have HN := Lib.hid (cNew_no n w h)
  clear h
  go_enter Try.func15, Try.ntmps15
  go_wp2_with fail
  refine HN.out.mono ?_
  rintro e w1 ⟨rfl, rfl⟩
  go_wp2
  go_ret
  exact ⟨rfl, rfl⟩
theorem mkU8 (n : Nat) (hn : n ≤ 1000) : ∀ w : World, (Instr.makeSlice 69 (.int .i64 (n : Int)) (.int .i64 (n : Int))).run Try.prog w = .ok (.slice (some ⟨w.heap.size, 0, none⟩) n n) (w.alloc (.cells (madeCells #[.int .u8 0] n) 5)) := fun w => by
  obtain ⟨i0, hi0, hi1, hi2, hi3⟩ := info_parts infoU8
  have h := run_make (P := Try.prog) w 69 5 i0 _ Try.underlying69 hi0 hi1 .i64 .i64 n n (by omega) (by omega) (by rw [hi3]; omega) (by omega)
  rw [hi2, Int.toNat_natCast, Nat.mul_one] at h
  exact h
set_option maxRecDepth 100000 in
set_option maxHeartbeats 2000000 in
theorem cNewSub (n : Nat) (v : Bs) (w : World) (hn : 1 ≤ n ∧ n ≤ 64) : Calls Try.prog 15 #[.int .i64 n, .string (S v)] w (fun e w' => e = .returned (.pointer (some ⟨w.heap.size + 1 + 1, 0, none⟩)) ∧ SubAt w' (w.heap.size + 1 + 1) w.heap.size n (sb0 (padV n v)) ∧ Below w.heap.size w w' ∧ w'.heap.size = w.heap.size + 1 + 1 + 1) := by
  have HN := Lib.hid (cNew n w hn)
  have hmk := mkU8 n (by omega)
  clear hn
  go_enter Try.func15, Try.ntmps15
  go_wp2_with fail
  refine HN.out.mono ?_
  rintro e w1 ⟨rfl, hg, hb, hz⟩
  obtain ⟨z, hcp⟩ := run_copy_pad n v 3 w1
  have hcv := conv_bytes (padV n v) n (pad_len n v) (w1.alloc (.cells (bytesA (padV n v)) 5)) w1.heap.size (heap_alloc_new _ _)
  have HC := Lib.hid hcp
  have HB := Lib.hid (⟨hg, hb, hz⟩ : _ ∧ _ ∧ _)
  clear hcp HN hg hb hz
  have HA := Lib.hid (heap_alloc_new (w1.alloc (.cells (bytesA (padV n v)) 5)) (.cells #[.pointer (some ⟨w.heap.size, 0, none⟩), .string (S (padV n v)), .int .u16 0, .int .u32 0, .string ⟨#[]⟩, .int .u16 0, .int .u32 0, .bool false, .bool false] 86 (0, 0)))
  go_wp2
  rw [HC.out]
  go_wp2
  go_ret
  obtain ⟨hg, hb, hz⟩ := HB.out
  have hA := HA.out
  have hsz : (w1.alloc (.cells (bytesA (padV n v)) 5)).heap.size = w.heap.size + 1 + 1 := by simp [hz]
  rw [hsz] at hA
  simp only [hz]
  refine ⟨rfl, ⟨[], 0, 0, hA, ?_, by omega, fun h => by cases h⟩, (hb.alloc (by omega) _).alloc (by simp; omega) _, ?_⟩
  · exact (hg.below (one_S _ _ _)).below (one_S _ _ _)
  · simp [hz]
end Go.Proofs.Ytbfjimbffpkkhaa.Pa
