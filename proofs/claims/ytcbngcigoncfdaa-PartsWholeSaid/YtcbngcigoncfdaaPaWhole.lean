/-
  PartsWhole: it returns true. Conditions: where its arguments lie.
-/
import Derived.Test.YtcbngcigoncfdaaPaWp
import Derived.Deep.DeepCutAuto
import Derived.Deep.CutRange
namespace Go.Proofs.Ytcbngcigoncfdaa.Pa
open Go.RowKit

def TLies (w : World) (N : Nat) (ao : Option Addr) (xs : List Bs) : Prop := 1 ≤ xs.length → ∃ b o, ao = some ⟨b, o, none⟩ ∧ b < N ∧ ∀ (i : Nat) (x : Bs), xs[i]? = some x → w.cell? ⟨b, o + i, none⟩ = some (.string (S x))
def CLies (w : World) (N : Nat) (ao : Option Addr) (xs : List (Nat × Nat)) : Prop := 1 ≤ xs.length → ∃ b o, ao = some ⟨b, o, none⟩ ∧ b < N ∧ ∀ (i : Nat) (x : Nat × Nat), xs[i]? = some x → w.cell? ⟨b, o + i * 2, none⟩ = some (.int .u8 x.1) ∧ w.cell? ⟨b, o + i * 2 + 1, none⟩ = some (.int .u8 x.2)
def whL (_ : Nat) (val : Nat → Bs) (k : Nat) : List Fr := spL (frW (k / 3) k) (val k) (nP (val k))
def LX (X : Nat → Prop) (W : World) (u : Value) (l : List Fr) : Prop := ∃ q cap, u = .slice (some ⟨q, 0, none⟩) l.length cap ∧ X q ∧ q < W.heap.size ∧ ∀ (i : Nat) (f : Fr), l[i]? = some f → FrAt W q (i * 19) f
theorem FrAt.heap {W W' : World} {b o : Nat} {f : Fr} (h : FrAt W b o f) (e : W'.heap[b]? = W.heap[b]?) : FrAt W' b o f := fun j v hv => (World.cell?_of_block (a := ⟨b, o + j, none⟩) e).trans (h j v hv)
theorem LX.turn {X Y : Nat → Prop} {W W' : World} {u : Value} {l : List Fr} (h : LX X W u l) (hs : W.heap.size ≤ W'.heap.size) (hXY : ∀ q, X q → q < W.heap.size → Y q ∧ W'.heap[q]? = W.heap[q]?) : LX Y W' u l := by
  obtain ⟨q, cap, rfl, hX, hq, hI⟩ := h
  exact ⟨q, cap, rfl, (hXY q hX hq).1, by omega, fun i f hf => (hI i f hf).heap (hXY q hX hq).2⟩
/-- All values' frames so far. -/
structure A1 (w W : World) (N n : Nat) (val : Nat → Bs) (k : Nat) (t : Value) : Prop where
  bel : Below N w W
  row : ∃ us : List Value, us.length = k ∧ W.ownsRow N 22 1 t k us ∧ ∀ (i : Nat) (u : Value), us[i]? = some u → LX (fun q => ∀ g, t.ownBlock = some g → q ≠ g) W u (whL n val i)
theorem infoFrs : (Try.prog.info? 22).map (fun i => (i.zero, i.size, i.bytes)) = some (some (.slice none 0 0), 1, 24) := by kernel_rfl
theorem wh_len {n : Nat} {val : Nat → Bs} (hn : 1 ≤ n ∧ n ≤ 64) (hv : ∀ i, (val i).length = n) (k : Nat) : (whL n val k).length = pN n := by
  unfold whL
  rw [sp_len, nP_pN (by rw [hv]; exact hn.2), hv]
theorem wh_at {n : Nat} {val : Nat → Bs} (hn : 1 ≤ n ∧ n ≤ 64) (hv : ∀ i, (val i).length = n) (k : Nat) {p : Nat} (hp : p < pN n) : (whL n val k)[p]? = some (whF n val k p) := by
  show ((List.range (nP (val k))).map (spF (frW (k / 3) k) (val k)))[p]? = _
  rw [List.getElem?_map, List.getElem?_range (by rw [nP_pN (by rw [hv]; exact hn.2), hv]; exact hp)]
  rfl

/-- The world in the law's second loop. -/
structure Wl (w W : World) (N b n m : Nat) (val : Nat → Bs) (g : Gl) (last : Int) (ga : Nat) : Prop where
  bel : Below N w W
  gl : GAt W b n g
  wp : Wp n m val g last
  nb : N ≤ b
  all : ∀ i, i < m → ∃ u, W.cell? ⟨ga, i, none⟩ = some u ∧ LX (fun q => q ≠ b) W u (whL n val i)
  gne : ga ≠ b
  galt : ga < W.heap.size
section
variable {w W W' : World} {N b n m ga : Nat} {val : Nat → Bs} {g g' : Gl} {last last' : Int}
theorem Wl.next (h : Wl w W N b n m val g last ga) (hb : Below W.heap.size W W') : Wl w W' N b n m val g last ga :=
  ⟨h.bel.trans (hb.mono (by have := h.gl.lt; have := h.nb; omega)), h.gl.below hb, h.wp, h.nb, fun i hi => by
    obtain ⟨u, hc, hx⟩ := h.all i hi
    exact ⟨u, kept_own hb hc, hx.turn hb.size (fun q hq hl => ⟨hq, hb.block q hl⟩)⟩, h.gne, by have := h.galt; have := hb.size; omega⟩
theorem Wl.drew (h : Wl w W N b n m val g last ga) : Wl w W.drew N b n m val g last ga := ⟨h.bel.drew, h.gl, h.wp, h.nb, h.all, h.gne, h.galt⟩
theorem Wl.put (h : Wl w W N b n m val g last ga) (ho : OnlyL [b] W W') (hg : GAt W' b n g') (hw : Wp n m val g' last') : Wl w W' N b n m val g' last' ga :=
  ⟨h.bel.trans (ho.below (by simp; exact h.nb) (by have := h.gl.lt; have := h.nb; omega)), hg, hw, h.nb, fun i hi => by
    obtain ⟨u, hc, hx⟩ := h.all i hi
    exact ⟨u, ho.cell (by simp; exact h.gne) hc, hx.turn ho.size (fun q hq hl => ⟨hq, ho.block q hl (by simp; exact hq)⟩)⟩, h.gne, by have := h.galt; have := ho.size; omega⟩
end

attribute [local go_sem ↓] exec_ldF exec_bdF
set_option maxRecDepth 100000 in
set_option maxHeartbeats 8000000 in
theorem whole_walk (z : Nat) (vs : List Bs) (ao : Option Addr) (cap : Nat) (cs : List (Nat × Nat)) (ao2 : Option Addr) (cap2 : Nat) (w : World) (hz : z ≤ 255) (hx : TLies w w.heap.size ao vs) (hlx : vs.length ≤ maxLen)
    (hc : CLies w w.heap.size ao2 cs) (hc8 : ∀ (i : Nat) (x : Nat × Nat), cs[i]? = some x → x.1 ≤ 255 ∧ x.2 ≤ 255) (hlc : cs.length ≤ maxLen) :
    Calls Try.prog 5 #[.int .u8 z, .slice ao vs.length cap, .slice ao2 cs.length cap2] w (Tells (.bool true) w) := by
  have hxi : (vs.length : Int) ≤ 9223372036854775807 := by unfold maxLen at hlx; omega
  have hci : (cs.length : Int) ≤ 9223372036854775807 := by unfold maxLen at hlc; omega
  have hzi : (z : Int) ≤ 255 := by omega
  by_cases hbad : vs.length < 1 ∨ 8 < vs.length ∨ 100 < cs.length
  · by_cases h1 : vs.length < 1
    · have e1 : decide ((vs.length : Int) < 1) = true := decide_eq_true (by omega)
      go_enter Try.func5, Try.ntmps5
      go_wp2_with fail
      refine (wake_any _).mono ?_
      rintro e w1 ⟨rfl, hb1⟩
      have HB1 := Lib.hid hb1
      clear hb1 hbad
      go_wp2
      go_ret
      exact ⟨rfl, HB1.out⟩
    · have e1 : decide ((vs.length : Int) < 1) = false := decide_eq_false (by omega)
      by_cases h2 : 8 < vs.length
      · have e2 : decide ((8 : Int) < (vs.length : Int)) = true := decide_eq_true (by omega)
        go_enter Try.func5, Try.ntmps5
        go_wp2_with fail
        refine (wake_any _).mono ?_
        rintro e w1 ⟨rfl, hb1⟩
        have HB1 := Lib.hid hb1
        clear hb1 hbad
        go_wp2
        go_ret
        exact ⟨rfl, HB1.out⟩
      · have e2 : decide ((8 : Int) < (vs.length : Int)) = false := decide_eq_false (by omega)
        have e3 : decide ((100 : Int) < (cs.length : Int)) = true := decide_eq_true (by omega)
        go_enter Try.func5, Try.ntmps5
        go_wp2_with fail
        refine (wake_any _).mono ?_
        rintro e w1 ⟨rfl, hb1⟩
        have HB1 := Lib.hid hb1
        clear hb1 hbad
        go_wp2
        go_ret
        exact ⟨rfl, HB1.out⟩
  have e1 : decide ((vs.length : Int) < 1) = false := decide_eq_false (by omega)
  have e2 : decide ((8 : Int) < (vs.length : Int)) = false := decide_eq_false (by omega)
  have e3 : decide ((100 : Int) < (cs.length : Int)) = false := decide_eq_false (by omega)
  have hvm : 1 ≤ vs.length ∧ vs.length ≤ 8 := by omega
  clear hbad
  have HX := Lib.hid hx
  have HC := Lib.hid hc
  have HC8 := Lib.hid hc8
  clear hx hc hc8
  obtain ⟨n, hn0⟩ : ∃ n : Nat, n = 1 + z % 64 := ⟨_, rfl⟩
  have hn : 1 ≤ n ∧ n ≤ 64 := by omega
  have hni : (1 : Int) + (z : Int) % 64 = (n : Int) := by omega
  clear hn0
  obtain ⟨val, hval⟩ : ∃ val : Nat → Bs, val = fun i => padV n (vs.getD i []) := ⟨_, rfl⟩
  have hv : ∀ i, (val i).length = n := fun i => by rw [hval]; exact pad_len _ _
  have HVal := Lib.hid (show ∀ i, val i = padV n (vs.getD i []) from fun i => by rw [hval])
  have HV := Lib.hid hv
  clear hval
  have hmk := mkU8 n (by omega)
  obtain ⟨i0, hi, hz0, hz1, hz2⟩ := info_parts infoFrs
  have HZ := Lib.hid (⟨hi, hz0, hz1, hz2⟩ : _ ∧ _ ∧ _ ∧ _)
  clear hi hz0 hz1 hz2
  go_enter Try.func5, Try.ntmps5
  go_wp2_with fail
  refine (wake_any _).mono ?_
  rintro e w1 ⟨rfl, hb1⟩
  have HA0 := Lib.hid (show A1 w w1 w.heap.size n val 0 (.slice none 0 0) from ⟨hb1, [], rfl, World.ownsRow_nil _ _ _ _, fun i u h => by simp at h⟩)
  clear hb1 hv
  generalize hN : w.heap.size = N at *
  go_wp2
  go_loopw [8, 44] (fun t i W => ∃ k : Nat, k ≤ vs.length ∧ i = .int .i64 k ∧ Hid (A1 w W N n val k t)) (fun _ i _ => vs.length - (intOf i).toNat)
  case atStart => exact ⟨0, Nat.zero_le _, rfl, HA0⟩
  case round =>
    clear HA0
    obtain ⟨k, hk, rfl, hS⟩ := hrel
    obtain ⟨us, hul, hown, hus⟩ := hS.out.row
    obtain ⟨A, c, rfl⟩ := own_form hown
    by_cases hlt : k < vs.length
    · have d1 : decide (k < vs.length) = true := decide_eq_true hlt
      obtain ⟨x, hxk⟩ : ∃ x, vs[k]? = some x := ⟨_, List.getElem?_eq_getElem hlt⟩
      obtain ⟨sb, so, rfl, hsb, hI⟩ := HX.out (by omega)
      have hcell := kept_cell hS.out.bel hsb (hI k x hxk)
      have hvk : val k = padV n x := by rw [HVal.out, List.getD_eq_getElem?_getD, hxk]; rfl
      obtain ⟨zz, hcp⟩ := run_copy_pad n x 3 wr
      rw [← hvk] at hcp
      have hcv := conv_bytes (val k) n (HV.out k) (wr.alloc (.cells (bytesA (val k)) 5)) wr.heap.size (heap_alloc_new _ _)
      have hbd : ∀ W, bdF #[(10, .agg #[.int .u16 ((k : Int) / 3), .int .u32 (k : Int)])] W = .ok (.value (.agg (frA (frW (k / 3) k)))) W := fun W => by
        have : ((k : Int) / 3) = ((k / 3 : Nat) : Int) := by omega
        rw [this]
        exact bdF_w (k / 3) k W
      have hk7 : (k : Int) ≤ 7 := by omega
      have HSp := Lib.hid (cSplit (frW (k / 3) k) (val k) (wr.alloc (.cells (bytesA (val k)) 5)) (by rw [HV.out]; unfold maxLen; omega))
      have HU := Lib.hid (⟨hul, hown, hus⟩ : _ ∧ _ ∧ _)
      have HBl := Lib.hid hS.out.bel
      have hsz : N ≤ wr.heap.size := by have := hS.out.bel.size; omega
      have hsbw : sb < wr.heap.size := by omega
      clear hI hxk hvk hul hown hus hS
      go_wp2_with fail
      refine HSp.out.mono ?_
      rintro e w3 ⟨u, rfl, hr3, hb3⟩
      have hwl := wh_len hn HV.out k
      have hP1 := (pN_bd hn.1 hn.2).1
      have hr3' : FRow (wr.heap.size + 1) w3 u (whL n val k) := by
        have e : (wr.alloc (.cells (bytesA (val k)) 5)).heap.size = wr.heap.size + 1 := by simp
        rw [e] at hr3
        exact hr3
      obtain ⟨qk, ck, rfl, -, hqk, hIk⟩ := hr3'.lr (by omega)
      have hqb : wr.heap.size + 1 ≤ qk := own_base hr3' qk rfl
      have HIk := Lib.hid hIk
      rw [hwl]
      have HWl := Lib.hid hwl
      clear hwl hr3' hIk
      have HB3 := Lib.hid (show Below wr.heap.size wr w3 from (one_S wr _ _).trans (hb3.mono (by simp)))
      have hsz3 : N ≤ w3.heap.size := by have := HB3.out.size; omega
      have HO := Lib.hid (World.ownsRow.alloc (own_kept HU.out.2.1 HB3.out) (.cells #[.slice (some ⟨qk, 0, none⟩) (pN n) ck] 22))
      clear hr3 hb3 HSp hcv hbd hcell hcp
      go_wp2_with (at_builtin; refine wpList_append_lies _ rfl (.tmp 55) (.tmp 66) 51 rfl N 22 i0 (.slice none 0 0) 1 24 Try.underlying51 HZ.out.1 HZ.out.2.1 HZ.out.2.2.1 HZ.out.2.2.2 rfl (by decide) _ k us rfl HO.out ⟨w3.heap.size, 0, none⟩ 1 1 [.slice (some ⟨qk, 0, none⟩) (pN n) ck] rfl rfl (cell_one_new _ _ _) (by intro y hy; simp at hy; subst hy; rfl) (by decide) (by unfold maxLen; omega) (by omega) (by simp; omega) _ rfl ?_)
      intro g4 c4 w4 hown4 hgr4 hat4 hlt4
      have hb4 : Below N wr w4 := (HB3.out.mono hsz).trans (((Below.refl N w3).alloc hsz3 _).grown hgr4 (by simp; omega) (fun g hg => own_base HO.out g hg))
      have hS1 := Lib.hid (show A1 w w4 N n val (k + 1) (.slice (some ⟨g4, 0, none⟩) (k + 1) c4) from by
        have hob : ∀ g, (Value.slice A k c).ownBlock = some g → g < wr.heap.size := fun g hg => (World.ownsRow.lt HU.out.2.1 g hg).2
        have hs34 : w3.heap.size + 1 ≤ w4.heap.size := by have := hgr4.size; simp at this; omega
        have hs3 := HB3.out.size
        have hold : ∀ q, q < w3.heap.size → (∀ g, (Value.slice A k c).ownBlock = some g → q ≠ g) → w4.heap[q]? = w3.heap[q]? ∧ q ≠ g4 := fun q hq hne => by
          refine ⟨(hgr4.block q (by simp; omega) (fun e => hne q e.symm rfl)).trans (Below.heap_alloc _ _ _ hq), ?_⟩
          rcases hat4 with e | e
          · exact hne g4 e
          · first | omega | (simp at e; omega)
        refine ⟨HBl.out.trans hb4, us ++ [.slice (some ⟨qk, 0, none⟩) (pN n) ck], by rw [List.length_append, HU.out.1]; rfl, hown4, fun i u hu => ?_⟩
        rw [List.getElem?_append] at hu
        split at hu
        · refine (HU.out.2.2 i u hu).turn (by omega) (fun q hX hq => ?_)
          obtain ⟨e1, e2⟩ := hold q (by omega) hX
          exact ⟨fun g hg => by simp [Value.ownBlock] at hg; omega, e1.trans (HB3.out.block q hq)⟩
        · have hi : i = k := by
            have := (List.getElem?_eq_some_iff.1 hu).1
            simp at this
            have := HU.out.1
            omega
          subst hi
          rw [HU.out.1, Nat.sub_self] at hu
          have hu : some (Value.slice (some ⟨qk, 0, none⟩) (pN n) ck) = some u := hu
          injection hu with hu
          subst hu
          obtain ⟨e1, e2⟩ := hold qk hqk (fun g hg => by have := hob g hg; omega)
          exact ⟨qk, ck, by rw [HWl.out], fun g hg => by simp [Value.ownBlock] at hg; omega, by omega, fun j f hf => (HIk.out j f hf).heap e1⟩)
      clear hown4 hgr4 HO hb4 hat4 hlt4
      go_wp2
      go_roundw
      case rel => exact ⟨k + 1, by omega, by go_num, hS1⟩
      case measure => simp [intOf]; omega
    · obtain rfl : k = vs.length := by omega
      have d1 : decide (vs.length < vs.length) = false := by simp
      obtain ⟨ga, ca, he, hNg, hgl⟩ := World.ownsRow.form hown (by omega)
      injection he with hA _ hcc
      subst hA hcc
      have HNw := Lib.hid (cNew n wr hn)
      have HL0 := Lib.hid (fun (w4 : World) (hg4 : GAt w4 wr.heap.size n g0) (hb4 : Below wr.heap.size wr w4) => show Wl w w4 N wr.heap.size n vs.length val g0 (-1) ga from by
        have hs4 := hb4.size
        have hbl := hS.out.bel.size
        refine ⟨hS.out.bel.trans (hb4.mono (by omega)), hg4, wp_first n _ val, by omega, fun i hi => ?_, by omega, by omega⟩
        obtain ⟨u, hu⟩ : ∃ u, us[i]? = some u := ⟨_, List.getElem?_eq_getElem (by omega)⟩
        have hcell := World.ownsRow.cellAt hown i (by omega)
        rw [hu] at hcell
        exact ⟨u, kept_own hb4 hcell, (hus i u hu).turn hs4 (fun q _ hl => ⟨by omega, hb4.block q hl⟩)⟩)
      have hbN : N ≤ wr.heap.size := by have := hS.out.bel.size; omega
      clear hS hul hown hus
      go_wp2_with fail
      refine HNw.out.mono ?_
      rintro e w4 ⟨rfl, hg4, hb4, -⟩
      have HL := Lib.hid (HL0.out w4 hg4 hb4)
      generalize wr.heap.size = b at *
      clear hg4 hb4 HL0 HNw
      go_wp2
      go_loopw [12, 73] (fun t i W => ∃ (k : Nat) (last : Int), k ≤ cs.length ∧ i = .int .i64 k ∧ t = .int .i64 last ∧ Hid (∃ g, Wl w W N b n vs.length val g last ga)) (fun _ i _ => cs.length - (intOf i).toNat)
      case atStart => exact ⟨0, -1, Nat.zero_le _, rfl, rfl, Lib.hid ⟨_, HL.out⟩⟩
      case round =>
        clear HL
        obtain ⟨k, last, hk, rfl, rfl, hS⟩ := hrel
        obtain ⟨g, hL⟩ := hS.out
        by_cases hlt : k < cs.length
        · have d2 : decide (k < cs.length) = true := decide_eq_true hlt
          obtain ⟨x, hx⟩ : ∃ x, cs[k]? = some x := ⟨_, List.getElem?_eq_getElem hlt⟩
          obtain ⟨hx1, hx2⟩ := HC8.out k x hx
          obtain ⟨cb, co, rfl, hcb, hIc⟩ := HC.out (by omega)
          obtain ⟨y0, y1⟩ := hIc k x hx
          have y0 := kept_cell hL.bel hcb y0
          have y1 := kept_cell hL.bel hcb y1
          obtain ⟨x1, x2⟩ := x
          have hx1i : (x1 : Int) ≤ 255 := by have : x1 ≤ 255 := hx1; omega
          have hx2i : (x2 : Int) ≤ 255 := by have : x2 ≤ 255 := hx2; omega
          dsimp only at y0 y1
          obtain ⟨K, hK⟩ : ∃ K, K = x1 % vs.length := ⟨_, rfl⟩
          have hKm : K < vs.length := by rw [hK]; exact Nat.mod_lt _ (by omega)
          have hm1 : ((x1 : Int) % ((vs.length : Nat) : Int)) = (K : Int) := by rw [hK]; exact (Int.natCast_emod _ _).symm
          obtain ⟨P, hP⟩ : ∃ P, P = pN n := ⟨_, rfl⟩
          have hP1 : 1 ≤ P ∧ P ≤ 4 := by rw [hP]; exact pN_bd hn.1 hn.2
          obtain ⟨Q, hQ⟩ : ∃ Q, Q = x2 % P := ⟨_, rfl⟩
          have hQP : Q < P := by rw [hQ]; exact Nat.mod_lt _ (by omega)
          have hm2 : ((x2 : Int) % ((P : Nat) : Int)) = (Q : Int) := by rw [hQ]; exact (Int.natCast_emod _ _).symm
          have hm3 : (x2 : Int).tmod ((P : Nat) : Int) = (Q : Int) := by rw [Int.tmod_eq_emod_of_nonneg (by omega)]; exact hm2
          have hP0 : (((P : Nat) : Int) == 0) = false := by rw [beq_eq_false_iff_ne]; omega
          have hPi : (1 : Int) ≤ (P : Int) := by omega
          have hvi : (1 : Int) ≤ ((vs.length : Nat) : Int) := by omega
          obtain ⟨u, hcu, q, cq, rfl, hqb, hql, hIq⟩ := hL.all K hKm
          have hwl := wh_len hn HV.out K
          rw [hwl, ← hP] at hcu
          have hfq := hIq Q _ (wh_at hn HV.out K (by rw [← hP]; exact hQP))
          have hf0 := hIq 0 _ (wh_at hn HV.out K (by rw [← hP]; omega))
          have HW1 := Lib.hid (show Wl w (wr.alloc (.cells #[.int .u8 x1, .int .u8 x2] 53)) N b n vs.length val g last ga ∧ (wr.alloc (.cells #[.int .u8 x1, .int .u8 x2] 53)).cell? ⟨wr.heap.size, 0, none⟩ = some (.int .u8 x1) ∧ (wr.alloc (.cells #[.int .u8 x1, .int .u8 x2] 53)).cell? ⟨wr.heap.size, 1, none⟩ = some (.int .u8 x2) ∧
              (wr.alloc (.cells #[.int .u8 x1, .int .u8 x2] 53)).cell? ⟨ga, K, none⟩ = some (.slice (some ⟨q, 0, none⟩) P cq) ∧ FrAt (wr.alloc (.cells #[.int .u8 x1, .int .u8 x2] 53)) q (Q * 19) (whF n val K Q) ∧ FrAt (wr.alloc (.cells #[.int .u8 x1, .int .u8 x2] 53)) q 0 (whF n val K 0) from
            ⟨hL.next (one_S _ _ _), (two_cells _ _ _ _).1, (two_cells _ _ _ _).2, kept_own (one_S _ _ _) hcu, hfq.below (one_S _ _ _), by rw [Nat.zero_mul] at hf0; exact hf0.below (one_S _ _ _)⟩)
          have hgal := hL.galt
          have hbB := hL.gl.lt
          clear hS hL hIc hx hx1 hx2 hIq hfq hf0 hwl hK hQ
          have HP := Lib.hid hP
          clear hP
          go_wp2_with fail
          refine world_cut (G := fun W => Code.wp _ _ _ _ W) (fun W => Wl w W N b n vs.length val g last ga ∧ W.cell? ⟨wr.heap.size, 0, none⟩ = some (.int .u8 x1) ∧ W.cell? ⟨wr.heap.size, 1, none⟩ = some (.int .u8 x2) ∧ W.cell? ⟨ga, K, none⟩ = some (.slice (some ⟨q, 0, none⟩) P cq) ∧ FrAt W q (Q * 19) (whF n val K Q) ∧ FrAt W q 0 (whF n val K 0)) (by exact HW1.out) ?_
          rintro W1 ⟨hL1, z0, z1, zu, hfq, hf0⟩
          have HL1 := Lib.hid hL1
          have HF0 := Lib.hid hf0
          have hld := hfq.ld
          have HFq := Lib.hid hfq
          clear HW1 hcu hgal y0 y1 hL1 hf0 hfq
          generalize wr.heap.size = B at *
          obtain ⟨hE, hD0, hD1⟩ := wp_put HL1.out.wp hn hvm.2 HV.out hKm (p := Q) (by rw [← HP.out]; exact hQP)
          have hfit := wp_fit (val := val) hn (k := K) (by omega) (p := Q) (by rw [← HP.out]; exact hQP)
          have hCP := fun (W : World) (h : GAt W b n g) => cPut b n g (whF n val K Q) W h HL1.out.wp.wg hn hfit (by show (pcL (val K) Q).length ≤ maxLen; rw [pc_len, HV.out]; have := (pL_bd (n := n) (p := Q) (by rw [← HP.out]; exact hQP)).2.1; unfold maxLen; omega)
          unfold putV at hCP
          have HCP := Lib.hid hCP
          have HE := Lib.hid hE
          have HD0 := Lib.hid hD0
          have HD1 := Lib.hid hD1
          clear hE hD0 hD1 hfit hCP hm2
          generalize hfr : whF n val K Q = F at *
          have n1 : ga ∉ [b] := by simp; exact HL1.out.gne
          have n2 : B ∉ [b] := by simp; omega
          have n3 : q ∉ [b] := by simp; exact hqb
          have zuD : W1.drew.cell? ⟨ga, K, none⟩ = some (.slice (some ⟨q, 0, none⟩) P cq) := zu
          have z1D : W1.drew.cell? ⟨B, 1, none⟩ = some (.int .u8 x2) := z1
          have HFD := Lib.hid (show FrAt W1.drew q (Q * 19) F from HFq.out)
          have HzD := Lib.hid (⟨zuD, z1D⟩ : _ ∧ _)
          clear zuD z1D
          have hPne : ¬ P = 0 := by omega
          have hwx : IntKind.i64.wrap (x2 : Int) = x2 := by rw [IntKind.wrap_i64]; omega
          have hwQ : IntKind.i64.wrap (Q : Int) = Q := by rw [IntKind.wrap_i64]; omega
          have hQPi : (Q : Int) < (P : Int) := by omega
          have hQ0 : (0 : Int) ≤ (Q : Int) := by omega
          have hKi : (K : Int) < ((vs.length : Nat) : Int) := by omega
          go_region_held3 (fun W' => W'.cell? ⟨ga, K, none⟩ = some (.slice (some ⟨q, 0, none⟩) P cq) ∧ W'.cell? ⟨B, 1, none⟩ = some (.int .u8 x2) ∧ ldF (.pointer (some ⟨q, Q * 19, none⟩)) W' = .ok (.value (.agg (frA F))) W') (first | exact ⟨HzD.out.1, HzD.out.2, HFD.out.ld⟩ | exact ⟨ho5.cell n1 HzD.out.1, ho5.cell n2 HzD.out.2, (FrAt.only HFD.out ho5 n3).ld⟩)
            ((go_at_call 8; (with_reducible refine (HCP.out _ HL1.out.drew.gl).mono ?_); rintro e w5 ⟨rfl, hg5, ho5⟩))
          have HL5 := Lib.hid (fun l (h : Wp n vs.length val (putG n g F) l) => HL1.out.drew.put ho5 hg5 h)
          have zu5 := ho5.cell n1 HzD.out.1
          have HF5 := Lib.hid (FrAt.only (show FrAt W1.drew q 0 (whF n val K 0) from HF0.out) ho5 n3)
          have hOut : doneB n g F = false → outB n g F = [] := fun h => by unfold outB; rw [h]; rfl
          have HOut := Lib.hid hOut
          clear HFD HzD HFq HF0 HL1 ho5 hg5 hOut zu z0 z1 hld HCP hwx hwQ hQPi hQ0 hm3
          generalize outB n g F = O at *
          generalize doneB n g F = D at *
          generalize errB n g F = E at *
          cases D
          · have hO : O = [] := HOut.out rfl
            subst hO
            have e3' : (S []).toList = [] := toL []
            have HS5 := Lib.hid (HL5.out last (HD0.out rfl))
            clear HL5 HD0 HD1 HF5 HOut zu5
            rcases HE.out with rfl | rfl | rfl
            all_goals
              simp only [show ((0 : Nat) : Int) = 0 from rfl, show ((1 : Nat) : Int) = 1 from rfl, show ((14 : Nat) : Int) = 14 from rfl]
              go_wp2
              go_roundw
              case rel => exact ⟨k + 1, last, by omega, by go_num, rfl, Lib.hid ⟨_, HS5.out⟩⟩
              case measure => simp [intOf]; omega
          · obtain ⟨hE0, hlK, hO, his, hin, hse, hwp⟩ := HD1.out rfl
            subst hE0 hO
            have HS5 := Lib.hid (HL5.out K hwp)
            clear HL5 HD0 HD1 HOut HE
            obtain ⟨xK, hxK⟩ : ∃ x, vs[K]? = some x := ⟨_, List.getElem?_eq_getElem hKm⟩
            obtain ⟨sb, so, rfl, hsb, hI⟩ := HX.out (by omega)
            have hcell := kept_cell HS5.out.bel hsb (hI K xK hxK)
            have hvk : val K = padV n xK := by rw [HVal.out, List.getD_eq_getElem?_getD, hxK]; rfl
            obtain ⟨zz, hcp⟩ := run_copy_pad n xK 3 w5
            rw [← hvk] at hcp
            have hsbw : sb < w5.heap.size := by have := HS5.out.bel.size; have := HS5.out.gl.lt; have := HS5.out.nb; omega
            have hS6 := HS5.out.next (one_S w5 (bytesA (val K)) 5)
            have hA := cAt b n (putG n g F) _ hS6.gl hwp.wg hn
            rw [his, hin, hse] at hA
            have HA := Lib.hid hA
            have HS6 := Lib.hid hS6
            have hB2 : (w5.alloc (.cells (bytesA (val K)) 5)).heap[w5.heap.size]? = _ := heap_alloc_new w5 (.cells (bytesA (val K)) 5)
            have HB2 := Lib.hid hB2
            have HZ6 := Lib.hid (kept_own (one_S w5 (bytesA (val K)) 5) zu5)
            have HF6 := Lib.hid (HF5.out.below (one_S w5 (bytesA (val K)) 5))
            have hlKd : decide ((K : Int) ≤ last) = false := decide_eq_false (by omega)
            clear hI hxK hvk hwp hS6 hA hB2 HF5 hin hse his hlK
            simp only [show ((0 : Nat) : Int) = 0 from rfl]
            go_wp2_with fail
            refine HA.out.mono ?_
            rintro e w7 ⟨rfl, hb7⟩
            have HS7 := Lib.hid (HS6.out.next hb7)
            have HZ7 := Lib.hid (kept_own hb7 HZ6.out)
            have HF7 := Lib.hid (HF6.out.below hb7)
            have HB7 := Lib.hid ((hb7.block w5.heap.size (by simp)).trans HB2.out)
            clear hb7 HS6 HZ6 HF6 HB2 HA
            have HW8 := Lib.hid (show Wl w (w7.alloc (.cells #[.int .u16 ((K / 3 : Nat) : Int), .int .u32 (K : Int)] 35)) N b n vs.length val (putG n g F) K ga ∧ (w7.alloc (.cells #[.int .u16 ((K / 3 : Nat) : Int), .int .u32 (K : Int)] 35)).cell? ⟨ga, K, none⟩ = some (.slice (some ⟨q, 0, none⟩) P cq) ∧
                FrAt (w7.alloc (.cells #[.int .u16 ((K / 3 : Nat) : Int), .int .u32 (K : Int)] 35)) q 0 (whF n val K 0) ∧ (w7.alloc (.cells #[.int .u16 ((K / 3 : Nat) : Int), .int .u32 (K : Int)] 35)).heap[w5.heap.size]? = some (.cells (bytesA (val K)) 5 (0, 0)) ∧
                (w7.alloc (.cells #[.int .u16 ((K / 3 : Nat) : Int), .int .u32 (K : Int)] 35)).cell? ⟨w7.heap.size, 0, none⟩ = some (.int .u16 ((K / 3 : Nat) : Int)) ∧ (w7.alloc (.cells #[.int .u16 ((K / 3 : Nat) : Int), .int .u32 (K : Int)] 35)).cell? ⟨w7.heap.size, 1, none⟩ = some (.int .u32 (K : Int)) from
              ⟨HS7.out.next (one_S _ _ _), kept_own (one_S _ _ _) HZ7.out, HF7.out.below (one_S _ _ _), ((one_S w7 _ _).block _ (lt_of_heap HB7.out)).trans HB7.out, (two_cells _ _ _ _).1, (two_cells _ _ _ _).2⟩)
            go_wp2
            refine world_cut (G := fun W => Code.wp _ _ _ _ W) (fun W => Wl w W N b n vs.length val (putG n g F) K ga ∧ W.cell? ⟨ga, K, none⟩ = some (.slice (some ⟨q, 0, none⟩) P cq) ∧ FrAt W q 0 (whF n val K 0) ∧ W.heap[w5.heap.size]? = some (.cells (bytesA (val K)) 5 (0, 0)) ∧ W.cell? ⟨w7.heap.size, 0, none⟩ = some (.int .u16 ((K / 3 : Nat) : Int)) ∧ W.cell? ⟨w7.heap.size, 1, none⟩ = some (.int .u32 (K : Int))) (by exact HW8.out) ?_
            rintro W8 ⟨hS8, zu8, hF8, hB8, v0, v1⟩
            have x14 : W8.cell? ⟨q, 14, none⟩ = some (.int .u16 ((K / 3 : Nat) : Int)) := hF8.at 14 rfl
            have x15 : W8.cell? ⟨q, 15, none⟩ = some (.int .u32 (K : Int)) := hF8.at 15 rfl
            have hcv : ∀ j, (convert 23 9 (.slice (some ⟨w5.heap.size, 0, none⟩) n n)).run Try.prog (W8.drewN j) = .ok (.string (S (val K))) (W8.drewN j) := fun j => conv_bytes (val K) n (HV.out K) (W8.drewN j) w5.heap.size hB8
            have HS8 := Lib.hid hS8
            clear HW8 HS7 HZ7 HF7 HB7 hS8 hF8 hB8 hcp hmk hcell HS5 zu5
            generalize w5.heap.size = B5 at *
            generalize w7.heap.size = B7 at *
            generalize (((K / 3 : Nat)) : Int) = K3 at *
            go_quiet (fail)
            go_wp2
            go_roundw
            case rel => exact ⟨k + 1, (K : Int), by omega, by go_num, rfl, Lib.hid ⟨_, HS8.out.next (below_drewN _ _ _)⟩⟩
            case measure => simp [intOf]; omega
        · obtain rfl : k = cs.length := by omega
          have d2 : decide (cs.length < cs.length) = false := by simp
          have HB := Lib.hid hL.bel
          clear hL
          go_wp2
          go_ret
          exact ⟨rfl, hN ▸ HB.out⟩
end Go.Proofs.Ytcbngcigoncfdaa.Pa
