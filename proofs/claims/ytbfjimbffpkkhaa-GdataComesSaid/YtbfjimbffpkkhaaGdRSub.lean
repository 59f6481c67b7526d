/-
  The reference's subscriber: in memory; its calls walked. Conditions: as each states.
-/
import Derived.Test.YtbfjimbffpkkhaaGdRPut
namespace Go.Proofs.Ytbfjimbffpkkhaa.Pa
open Go.RowKit

def tlS (s : Sb) : List Value := [.string (S s.front), .string (S s.beh), .int .u16 s.fi, .int .u32 s.fs, .int .u16 s.bi, .int .u32 s.bs, .bool s.waits, .bool s.fault]
def RsAt (W : World) (b r n : Nat) (s : Sb) : Prop := RAt (tlS s) W b r n s.gl
section
variable {W W' : World} {b r n : Nat} {s : Sb}
theorem RsAt.c5 (h : RsAt W b r n s) : W.cell? ⟨b, 5, none⟩ = some (.string (S s.front)) := RAt.ct h (k := 0) rfl
theorem RsAt.c6 (h : RsAt W b r n s) : W.cell? ⟨b, 6, none⟩ = some (.string (S s.beh)) := RAt.ct h (k := 1) rfl
theorem RsAt.c7 (h : RsAt W b r n s) : W.cell? ⟨b, 7, none⟩ = some (.int .u16 s.fi) := RAt.ct h (k := 2) rfl
theorem RsAt.c8 (h : RsAt W b r n s) : W.cell? ⟨b, 8, none⟩ = some (.int .u32 s.fs) := RAt.ct h (k := 3) rfl
theorem RsAt.c9 (h : RsAt W b r n s) : W.cell? ⟨b, 9, none⟩ = some (.int .u16 s.bi) := RAt.ct h (k := 4) rfl
theorem RsAt.c10 (h : RsAt W b r n s) : W.cell? ⟨b, 10, none⟩ = some (.int .u32 s.bs) := RAt.ct h (k := 5) rfl
theorem RsAt.c11 (h : RsAt W b r n s) : W.cell? ⟨b, 11, none⟩ = some (.bool s.waits) := RAt.ct h (k := 6) rfl
theorem RsAt.c12 (h : RsAt W b r n s) : W.cell? ⟨b, 12, none⟩ = some (.bool s.fault) := RAt.ct h (k := 7) rfl
theorem RsAt.free (h : RsAt W b r n s) (j : Nat) : W.frozen? ⟨b, j, none⟩ = false := RAt.free h j
theorem RsAt.lt (h : RsAt W b r n s) : b < W.heap.size := RAt.lt h
theorem RsAt.below (h : RsAt W b r n s) (hb : Below W.heap.size W W') : RsAt W' b r n s := RAt.below h hb
theorem RsAt.only {ms : List Nat} (h : RsAt W b r n s) (hb : OnlyL ms W W') (h1 : b ∉ ms) (h2 : s.gl.is = true → r ∉ ms) : RsAt W' b r n s := RAt.only h hb h1 h2
theorem RsAt.drew (h : RsAt W b r n s) : RsAt W.drew b r n s := RAt.drew h
theorem RsAt.flt (h : RsAt W b r n s) : RsAt (W.setCell ⟨b, 12, none⟩ (.bool true)) b r n { s with fault := true } := RAt.tset h 7 (.bool true)
theorem RsAt.hold (h : RsAt W b r n s) (l : Bs) (i k : Nat) : RsAt ((((W.setCell ⟨b, 6, none⟩ (.string (S l))).setCell ⟨b, 9, none⟩ (.int .u16 i)).setCell ⟨b, 10, none⟩ (.int .u32 k)).setCell ⟨b, 11, none⟩ (.bool true)) b r n
    { s with beh := l, bi := i, bs := k, waits := true } := RAt.tset (RAt.tset (RAt.tset (RAt.tset h 1 (.string (S l))) 4 (.int .u16 i)) 5 (.int .u32 k)) 6 (.bool true)
theorem RsAt.lat (h : RsAt W b r n s) (hw : s.waits = true) : RsAt (((((((W.setCell ⟨b, 5, none⟩ (.string (S s.beh))).setCell ⟨b, 7, none⟩ (.int .u16 s.bi)).setCell ⟨b, 8, none⟩ (.int .u32 s.bs)).setCell ⟨b, 6, none⟩ (.string ⟨#[]⟩)).setCell ⟨b, 9, none⟩ (.int .u16 0)).setCell ⟨b, 10, none⟩ (.int .u32 0)).setCell ⟨b, 11, none⟩ (.bool false)) b r n (latS s) := by
  have e : latS s = ⟨s.gl, s.beh, s.bi, s.bs, [], 0, 0, false, s.fault⟩ := by unfold latS; rw [if_pos hw]
  rw [e]
  exact RAt.tset (RAt.tset (RAt.tset (RAt.tset (RAt.tset (RAt.tset (RAt.tset h 0 (.string (S s.beh))) 2 (.int .u16 s.bi)) 3 (.int .u32 s.bs)) 1 (.string ⟨#[]⟩)) 4 (.int .u16 0)) 5 (.int .u32 0)) 6 (.bool false)
end

set_option maxRecDepth 100000 in
set_option maxHeartbeats 2000000 in
theorem rLatch (b r n : Nat) (s : Sb) (w : World) (h : RsAt w b r n s) : Calls Try.prog 21 #[.pointer (some ⟨b, 0, none⟩)] w (fun e w' => e = .returned (.bool s.waits) ∧ RsAt w' b r n (latS s) ∧ OnlyL [b] w w') := by
  have c11 := h.c11
  cases hi : s.waits
  · have HE := Lib.hid (show RsAt w b r n (latS s) by unfold latS; rw [if_neg (by rw [hi]; decide)]; exact h)
    rw [hi] at c11
    clear h hi
    go_enter Try.func21, Try.ntmps21
    go_wp2
    go_ret
    exact ⟨rfl, HE.out, OnlyL.refl _ _⟩
  · have HE := Lib.hid (h.lat hi)
    have c5 := h.c5
    have c6 := h.c6
    have c7 := h.c7
    have c8 := h.c8
    have c9 := h.c9
    have c10 := h.c10
    have f5 := h.free 5
    have f6 := h.free 6
    have f7 := h.free 7
    have f8 := h.free 8
    have f9 := h.free 9
    have f10 := h.free 10
    have f11 := h.free 11
    rw [hi] at c11
    clear h hi
    go_enter Try.func21, Try.ntmps21
    go_wp2
    go_ret
    exact ⟨rfl, HE.out, ((((((OnlyL.set (by simp) _ _).tr (OnlyL.set (by simp) _ _)).tr (OnlyL.set (by simp) _ _)).tr (OnlyL.set (by simp) _ _)).tr (OnlyL.set (by simp) _ _)).tr (OnlyL.set (by simp) _ _)).tr (OnlyL.set (by simp) _ _)⟩

structure Ux (w W : World) (R b r0 r n : Nat) (s : Sb) (f : Fr) : Prop where
  sub : RsAt W b r n s
  box : FrAt W R 0 f
  only : OnlyL [b, r0] w W
  rb : R ≠ b
  rr : R ≠ r0
  new : r = r0 ∨ w.heap.size ≤ r
section
variable {w W W' : World} {R b r0 r n : Nat} {s : Sb} {f : Fr}
theorem Ux.drew (h : Ux w W R b r0 r n s f) : Ux w W.drew R b r0 r n s f := ⟨h.sub.drew, h.box, h.only.drew, h.rb, h.rr, h.new⟩
theorem Ux.glue {r' : Nat} {g' : Gl} (h : Ux w W R b r0 r0 n s f) (ho : OnlyL [b, r0] W W') (hg : RAt (tlS s) W' b r' n g') (hn : r' = r0 ∨ W.heap.size ≤ r') : Ux w W' R b r0 r' n { s with gl := g' } f :=
  ⟨hg, h.box.only ho (by have := h.rb; have := h.rr; simp; omega), h.only.tr ho, h.rb, h.rr, hn.imp id fun h2 => by have := h.only.size; omega⟩
end
attribute [local go_sem ↓] exec_ldF
set_option maxRecDepth 100000 in
set_option maxHeartbeats 4000000 in
theorem rSPut (b r n : Nat) (s : Sb) (f : Fr) (w : World) (h : RsAt w b r n s) (hw : WS n s) (hf : FitF f) (hl : f.bytes.length ≤ maxLen) (hr : r < w.heap.size ∨ w.heap.size < r) :
    Calls Try.prog 22 #[.pointer (some ⟨b, 0, none⟩), .agg (frA f)] w fun e w' => e = .returned (.tuple #[.bool (doneB n s.gl f), .int .i64 (errB n s.gl f : Nat)]) ∧ ∃ r', RsAt w' b r' n (putS n s f) ∧ OnlyL [b, r] w w' ∧ (r' = r ∨ w.heap.size ≤ r') := by
  have hblt := h.lt
  have HX := Lib.hid (show Ux w (w.alloc (.cells (frA f) 33)) w.heap.size b r r n s f from
    ⟨h.below (one_S _ _ _), FrAt.new _ _ _, OnlyL.of_below (one_S _ _ _), by omega, by omega, .inl rfl⟩)
  have HP := Lib.hid (fun W (hg : RsAt W b r n s) => rPut (tlS s) b r n s.gl f W hg hw.gl ⟨hw.n1, hw.n64⟩ hf hl)
  clear h hf hl hw hr
  have HU := Lib.hid (show rputV n s.gl f = .tuple #[.string (S (outB n s.gl f)), .bool (doneB n s.gl f), .int .i64 (errB n s.gl f : Nat)] from rfl)
  have HS := Lib.hid (show putS n s f = ⟨putG n s.gl f, s.front, s.fi, s.fs, if doneB n s.gl f then outB n s.gl f else s.beh, if doneB n s.gl f then f.vinc else s.bi, if doneB n s.gl f then f.vseq else s.bs, s.waits || doneB n s.gl f, s.fault || decide (errB n s.gl f = 3)⟩ from rfl)
  have HD := Lib.hid (show doneB n s.gl f = true → errB n s.gl f = 0 from fun h => by
    unfold doneB at h
    rw [Bool.and_eq_true, decide_eq_true_iff] at h
    exact h.1)
  have HLd := Lib.hid (fun W R (h : FrAt W R 0 f) => h.ld)
  generalize putS n s f = s' at *
  generalize rputV n s.gl f = V at *
  generalize hXf : frA f = X at *
  replace hXf := Lib.hid hXf
  go_enter Try.func22, Try.ntmps22
  go_wp2
  refine world_cut (G := fun W => Code.wp _ _ _ _ W) (fun W => Ux w W w.heap.size b r r n s f) (by exact HX.out) ?_
  rintro W hW
  have HW := Lib.hid hW
  clear HX
  generalize hR : w.heap.size = R at *
  have HR := Lib.hid hR
  have hx := HLd.out W R hW.box
  have hG := hW.drew
  clear hR hW
  go_region_held3 (fun W' => ldF (.pointer (some ⟨R, 0, none⟩)) W' = .ok (.value (.agg X)) W') (first | exact hx | exact HLd.out _ _ hG.box)
    ((go_at_call 33; refine (HP.out _ hG.sub).mono ?_; rintro e w2 ⟨rfl, r', hg2, ho2, hn2⟩; have hG2 := hG.glue ho2 hg2 hn2; clear hG hg2 ho2 hn2; have hG := hG2; clear hG2; rw [HU.out]))
  have HG := Lib.hid hG
  have HN := Lib.hid hG.new
  clear hG HW HP hx
  cases hd : doneB n s.gl f
  · have HD0 := Lib.hid hd
    rw [hd] at HS
    have HS' : Hid (s' = ⟨putG n s.gl f, s.front, s.fi, s.fs, s.beh, s.bi, s.bs, s.waits, s.fault || decide (errB n s.gl f = 3)⟩) := Lib.hid (by rw [HS.out]; simp)
    clear HS HD hd
    by_cases he : errB n s.gl f = 3
    · have HE := Lib.hid he
      rw [he] at HS'
      have h8 := HG.out.sub.c12
      have f8 := HG.out.sub.free 12
      have HK := Lib.hid (show RsAt (w2.setCell ⟨b, 12, none⟩ (.bool true)) b r' n s' ∧ OnlyL [b, r] w (w2.setCell ⟨b, 12, none⟩ (.bool true)) from by
        have k := HG.out.sub.flt
        rw [HS'.out]
        simp only [decide_true, Bool.or_true]
        exact ⟨k, HG.out.only.tr (OnlyL.set (by simp) _ _)⟩)
      have e3 : ((3 : Nat) : Int) = 3 := rfl
      rw [he]
      simp only [e3]
      clear he
      go_wp2
      go_ret2
      exact ⟨by rw [HD0.out, HE.out]; rfl, r', HK.out.1, HK.out.2, HN.out⟩
    · have e3 : (((errB n s.gl f : Nat) : Int) == 3) = false := by rw [beq_eq_false_iff_ne]; omega
      have HK := Lib.hid (show RsAt w2 b r' n s' ∧ OnlyL [b, r] w w2 from by
        rw [HS'.out, decide_eq_false he, Bool.or_false]
        exact ⟨HG.out.sub, HG.out.only⟩)
      clear he
      go_wp2
      go_ret2
      exact ⟨by rw [HD0.out]; rfl, r', HK.out.1, HK.out.2, HN.out⟩
  · have he := HD.out hd
    have HE := Lib.hid (⟨hd, he⟩ : _ ∧ _)
    rw [hd, he] at HS
    have HS' : Hid (s' = ⟨putG n s.gl f, s.front, s.fi, s.fs, outB n s.gl f, f.vinc, f.vseq, true, s.fault⟩) := Lib.hid (by rw [HS.out]; simp)
    have h4 := HG.out.sub.c6
    have h5 := HG.out.sub.c9
    have h6 := HG.out.sub.c10
    have h7 := HG.out.sub.c11
    have f4 := HG.out.sub.free 6
    have f5 := HG.out.sub.free 9
    have f6 := HG.out.sub.free 10
    have f7 := HG.out.sub.free 11
    have hRb := HG.out.rb
    have x14 := HG.out.box.at 14 rfl
    have x15 := HG.out.box.at 15 rfl
    have HK := Lib.hid (HG.out.sub.hold (outB n s.gl f) f.vinc f.vseq)
    rw [he]
    simp only [show ((0 : Nat) : Int) = 0 from rfl]
    clear HS HD hd he
    go_wp2
    go_ret2
    exact ⟨by rw [HE.out.1, HE.out.2]; rfl, r', by rw [HS'.out]; exact HK.out, HG.out.only.tr ((((OnlyL.set (by simp) _ _).tr (OnlyL.set (by simp) _ _)).tr (OnlyL.set (by simp) _ _)).tr (OnlyL.set (by simp) _ _)), HN.out⟩

/-! ### NewSub -/
theorem pad_z {n : Nat} {v : Bs} {k : Nat} (h : n ≤ v.length + k) (hk : v.length + k ≤ n ∨ k = 0) : (v ++ List.replicate k 0).take n = padV n v := by
  unfold padV
  rcases hk with hk | hk
  · have : v.length ≤ n := by omega
    rw [List.take_of_length_le (by simp; omega), List.take_of_length_le this]
    congr 2
    omega
  · subst hk
    rw [List.replicate_zero, List.append_nil, show n - v.length = 0 by omega, List.replicate_zero, List.append_nil]
def lenV : Value → Nat
  | .string s => s.size
  | _ => 0
set_option maxRecDepth 100000 in
set_option maxHeartbeats 2000000 in
theorem rNewSub (n : Nat) (v : Bs) (w : World) (hn : 1 ≤ n ∧ n ≤ 64) : Calls Try.prog 20 #[.int .i64 n, .string (S v)] w (fun e w' => e = .returned (.pointer (some ⟨w.heap.size, 0, none⟩)) ∧ RsAt w' w.heap.size w.heap.size n (sb0 (padV n v)) ∧ Below w.heap.size w w' ∧ w'.heap.size = w.heap.size + 1) := by
  have HA := Lib.hid (heap_alloc_new w (.cells #[.int .i64 n, .bool false, .int .u16 0, .int .u32 0, .slice none 0 0, .string (S (padV n v)), .string ⟨#[]⟩, .int .u16 0, .int .u32 0, .int .u16 0, .int .u32 0, .bool false, .bool false] 63 (0, 0)))
  have HB := Lib.hid (one_S w #[.int .i64 n, .bool false, .int .u16 0, .int .u32 0, .slice none 0 0, .string (S (padV n v)), .string ⟨#[]⟩, .int .u16 0, .int .u32 0, .int .u16 0, .int .u32 0, .bool false, .bool false] 63)
  go_enter Try.func20, Try.ntmps20
  go_wp2
  go_loop [1] (fun t => ∃ k : Nat, t = .string (S (v ++ List.replicate k 0)) ∧ (v.length + k ≤ n ∨ k = 0)) (fun t => n - lenV t)
  case atStart => exact ⟨0, by simp, .inr rfl⟩
  case round =>
    obtain ⟨k, rfl, hk⟩ := hrel
    have hlen : (v ++ List.replicate k 0).length = v.length + k := by simp
    have hs := S_size (v ++ List.replicate k 0)
    have hcut := S_cut (v ++ List.replicate k 0) 0 n
    rw [hlen] at hs
    by_cases hlt : v.length + k < n
    · have d1 : decide (v.length + k < n) = true := decide_eq_true hlt
      have hsa := sadd (v ++ List.replicate k 0) [0] (by rw [hlen]; simp; omega)
      have e1 : S [0] = ⟨#[0]⟩ := rfl
      have hn2 : v ++ List.replicate k 0 ++ [0] = v ++ List.replicate (k + 1) 0 := by rw [List.append_assoc, List.replicate_succ']
      rw [e1, hn2] at hsa
      have HZ := Lib.hid (show (S (v ++ List.replicate (k + 1) 0)).size = v.length + (k + 1) by rw [S_size]; simp)
      have HL := Lib.hid hs
      clear hn2 hcut hlen
      generalize v ++ List.replicate k 0 = V at *
      go_wp2
      go_round
      case rel => exact ⟨k + 1, rfl, .inl (by omega)⟩
      case measure => simp only [lenV]; rw [HZ.out, HL.out]; omega
    · have d1 : decide (v.length + k < n) = false := decide_eq_false hlt
      have hp := pad_z (n := n) (v := v) (k := k) (by omega) hk
      rw [hp, List.drop_zero] at hcut
      generalize v ++ List.replicate k 0 = V at *
      clear hp hlen
      go_wp2
      go_ret
      exact ⟨rfl, ⟨HA.out, fun h => by cases h⟩, HB.out, by simp⟩
end Go.Proofs.Ytbfjimbffpkkhaa.Pa
