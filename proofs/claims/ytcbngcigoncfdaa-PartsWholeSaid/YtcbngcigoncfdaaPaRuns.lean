/-
  PartsRuns: it returns true. Conditions: where its arguments lie.
-/
import Derived.Test.YtcbngcigoncfdaaPaLaw
import Derived.Test.YtcbngcigoncfdaaPaRPut
import Derived.Deep.LoopGhost
namespace Go.Proofs.Ytcbngcigoncfdaa.Pa
open Go.RowKit

/-- Frames, and bytes, that came in. -/
def FLies (w : World) (N : Nat) (ao : Option Addr) (xs : List Fr) : Prop := 1 ≤ xs.length → ∃ b o, ao = some ⟨b, o, none⟩ ∧ b < N ∧ ∀ (k : Nat) (f : Fr), xs[k]? = some f → FrAt w b (o + k * 19) f
def FitX (xs : List Fr) : Prop := ∀ (k : Nat) (f : Fr), xs[k]? = some f → FitF f ∧ f.bytes.length ≤ maxLen
def BLies (w : World) (N : Nat) (ao : Option Addr) (xs : List Nat) : Prop := 1 ≤ xs.length → ∃ b o, ao = some ⟨b, o, none⟩ ∧ b < N ∧ ∀ (i x : Nat), xs[i]? = some x → w.cell? ⟨b, o + i, none⟩ = some (.int .u8 x)
theorem FLies.below {w w' : World} {N : Nat} {ao : Option Addr} {xs : List Fr} (h : FLies w N ao xs) (hb : Below N w w') : FLies w' N ao xs := fun h1 => by
  obtain ⟨b, o, e, hlt, hI⟩ := h h1
  exact ⟨b, o, e, hlt, fun k f hk j v hv => kept_cell hb hlt (hI k f hk j v hv)⟩
theorem BLies.below {w w' : World} {N : Nat} {ao : Option Addr} {xs : List Nat} (h : BLies w N ao xs) (hb : Below N w w') : BLies w' N ao xs := fun h1 => by
  obtain ⟨b, o, e, hlt, hI⟩ := h h1
  exact ⟨b, o, e, hlt, fun k f hk => kept_cell hb hlt (hI k f hk)⟩

/-- The glue and the reference's, side by side. -/
structure Rs (w W : World) (N b bw n : Nat) (g : Gl) (r : Nat) : Prop where
  gl : GAt W b n g
  rf : RAt W bw r n g
  wg : WG n g
  bel : Below N w W
  nb : N ≤ b
  nbw : N ≤ bw
  nr : N ≤ r
  ne : b ≠ bw
  ner : b ≠ r
section
variable {w W W' : World} {N b bw n r : Nat} {g : Gl} {f : Fr}
theorem Rs.next (h : Rs w W N b bw n g r) (hb : Below W.heap.size W W') : Rs w W' N b bw n g r :=
  ⟨h.gl.below hb, h.rf.below hb, h.wg, h.bel.trans (hb.mono (by have := h.gl.lt; have := h.nb; omega)), h.nb, h.nbw, h.nr, h.ne, h.ner⟩
theorem Rs.drew (h : Rs w W N b bw n g r) : Rs w W.drew N b bw n g r := ⟨h.gl, h.rf.drew, h.wg, h.bel.drew, h.nb, h.nbw, h.nr, h.ne, h.ner⟩
theorem Rs.size (h : Rs w W N b bw n g r) : N ≤ W.heap.size := by have := h.gl.lt; have := h.nb; omega
/-- Behind the program's Put, ahead of the reference's. -/
structure Rm (w W : World) (N b bw n : Nat) (g h : Gl) (r : Nat) : Prop where
  gl : GAt W b n h
  rf : RAt W bw r n g
  bel : Below N w W
  nb : N ≤ b
  nbw : N ≤ bw
  nr : N ≤ r
  ne : b ≠ bw
  ner : b ≠ r
theorem Rs.put {h : Gl} (k : Rs w W N b bw n g r) (ho : OnlyL [b] W W') (hg : GAt W' b n h) : Rm w W' N b bw n g h r :=
  ⟨hg, k.rf.only ho (by simp; exact fun e => k.ne e.symm) (fun _ => by simp; exact fun e => k.ner e.symm), k.bel.trans (ho.below (by simp; exact k.nb) k.size), k.nb, k.nbw, k.nr, k.ne, k.ner⟩
theorem Rm.put {h : Gl} {r' : Nat} (k : Rm w W N b bw n g h r) (ho : OnlyL [bw, r] W W') (hr : RAt W' bw r' n h) (hn : r' = r ∨ W.heap.size ≤ r') (hw : WG n h) : Rs w W' N b bw n h r' := by
  have hlt := k.gl.lt
  have hN := k.nb
  have hnr := k.nr
  have hner := k.ner
  refine ⟨k.gl.only ho (by simp; exact ⟨k.ne, k.ner⟩), hr, hw, k.bel.trans (ho.below (by simp; exact ⟨k.nbw, k.nr⟩) (by omega)), k.nb, k.nbw, ?_, k.ne, ?_⟩
  · rcases hn with rfl | hn <;> omega
  · rcases hn with rfl | hn <;> omega
theorem Rs.clear (k : Rs w W N b bw n g r) (ho : OnlyL [b] W W') (hg : GAt W' b n g0) :
    Rs w (W'.alloc (.cells #[.int .i64 n, .bool false, .int .u16 0, .int .u32 0, .slice none 0 0] 41)) N b W'.heap.size n g0 W'.heap.size := by
  have hlt := hg.lt
  have hs := k.size
  have hz := ho.size
  refine ⟨hg.below (one_S _ _ _), RAt.new W' n W'.heap.size, wg_0 n, (k.bel.trans (ho.below (by simp; exact k.nb) hs)).trans ((one_S _ _ _).mono (by omega)), k.nb, by omega, by omega, by omega, by omega⟩
end
/-- A new frame, and then stored whole. -/
theorem stF_new (W : World) (n : Nat) (z : Array Value) (f : Fr) (t : TypeId) (hn : n = W.heap.size) (hz : z.size = 19) :
    stF (.pointer (some ⟨n, 0, none⟩)) (.agg (frA f)) (W.alloc (.cells z t)) = .ok .skip (W.alloc (.cells (frA f) t)) := by
  subst hn
  have ht : (W.alloc (.cells z t)).there W.heap.size 0 19 := fun j hj => by
    rw [Nat.zero_add]
    refine ⟨?_, World.frozen?_alloc_new _ _ _ _⟩
    rw [World.cell?_alloc_new, Array.getElem?_eq_getElem (by omega)]
    rfl
  rw [stF_of _ _ _ _ ht (frA_size f) (frA_one f)]
  have hlf : (frA f).toList.length = 19 := by rw [Array.length_toList, frA_size]
  have hsf := frA_size f
  generalize frA f = X at *
  have e : ∀ (vs : List Value) (o : Nat) (c : Array Value), (W.alloc (.cells c t)).setCells W.heap.size o vs = W.alloc (.cells (setL c o vs) t) := by
    intro vs
    induction vs with
    | nil => intro o c; rfl
    | cons v vs ih => intro o c; rw [World.setCells, World.setCell_alloc_at (hn := rfl), ih, setL]
  rw [e]
  congr 3
  apply Array.ext_getElem?
  intro j
  rw [setL_at _ _ _ _ (by rw [hz, hlf]; exact Nat.le_refl _), hlf]
  by_cases h : j < 19
  · rw [if_pos (by omega)]; simp
  · rw [if_neg (by omega), Array.getElem?_eq_none (by omega), Array.getElem?_eq_none (by omega)]

attribute [local go_sem ↓] exec_bdF exec_ldF exec_stF
attribute [local go_sem] bdF_k
set_option maxRecDepth 100000 in
set_option maxHeartbeats 4000000 in
theorem runs_walk (z : Int) (xs : List Fr) (ao : Option Addr) (cap : Nat) (cs : List Nat) (ao2 : Option Addr) (cap2 : Nat) (w : World) (hz : I64 z) (hx : FLies w w.heap.size ao xs) (hfx : FitX xs) (hlx : xs.length ≤ maxLen)
    (hc : BLies w w.heap.size ao2 cs) (hc8 : ∀ (i x : Nat), cs[i]? = some x → x ≤ 255) (hlc : cs.length ≤ maxLen) :
    Calls Try.prog 3 #[.int .i64 z, .slice ao xs.length cap, .slice ao2 cs.length cap2] w (Tells (.bool true) w) := by
  have hxi : (xs.length : Int) ≤ 9223372036854775807 := by unfold maxLen at hlx; omega
  have hci : (cs.length : Int) ≤ 9223372036854775807 := by unfold maxLen at hlc; omega
  by_cases h60 : 60 < xs.length
  · have e1 : decide ((60 : Int) < (xs.length : Int)) = true := by simp; omega
    go_enter Try.func3, Try.ntmps3
    go_wp2_with fail
    refine (wake_any _).mono ?_
    rintro e w1 ⟨rfl, hb1⟩
    have HB1 := Lib.hid hb1
    clear hb1
    go_wp2
    go_ret
    exact ⟨rfl, HB1.out⟩
  have e1 : decide ((60 : Int) < (xs.length : Int)) = false := by simp; omega
  by_cases h61 : 60 < cs.length
  · have e2 : decide ((60 : Int) < (cs.length : Int)) = true := by simp; omega
    go_enter Try.func3, Try.ntmps3
    go_wp2_with fail
    refine (wake_any _).mono ?_
    rintro e w1 ⟨rfl, hb1⟩
    have HB1 := Lib.hid hb1
    clear hb1
    go_wp2
    go_ret
    exact ⟨rfl, HB1.out⟩
  have e2 : decide ((60 : Int) < (cs.length : Int)) = false := by simp; omega
  have HX := Lib.hid hx
  have HC := Lib.hid hc
  have HFX := Lib.hid hfx
  have HC8 := Lib.hid hc8
  clear hx hc hfx hc8
  by_cases hn : 1 ≤ z ∧ z ≤ 64
  · obtain ⟨n, rfl⟩ : ∃ n : Nat, z = n := ⟨z.toNat, by omega⟩
    have hn1 : 1 ≤ n ∧ n ≤ 64 := by omega
    have e3 : decide ((n : Int) < 1) = false := by simp; omega
    have e4 : decide ((64 : Int) < (n : Int)) = false := by simp; omega
    go_enter Try.func3, Try.ntmps3
    go_wp2_with fail
    refine (wake_any _).mono ?_
    rintro e w1 ⟨rfl, hb1⟩
    have HB1 := Lib.hid hb1
    clear hb1
    go_wp2_with fail
    refine (cNew n w1 hn1).mono ?_
    rintro e w2 ⟨rfl, hg2, hb2, hz2⟩
    generalize hb : w1.heap.size = b at *
    have HS0 := Lib.hid (show Rs w (w2.alloc (.cells #[.int .i64 n, .bool false, .int .u16 0, .int .u32 0, .slice none 0 0] 41)) w.heap.size b w2.heap.size n g0 w2.heap.size from by
      have h1 := HB1.out.size
      have hlt := hg2.lt
      exact ⟨hg2.below (one_S _ _ _), RAt.new w2 n _, wg_0 n, (HB1.out.trans (hb2.mono (by omega))).trans ((one_S _ _ _).mono (by omega)), by omega, by omega, by omega, by omega, by omega⟩)
    clear hg2 hb2 hz2
    go_wp2
    generalize hN : w.heap.size = N at *
    go_loopw [11, 65] (fun p i W => ∃ k : Nat, k ≤ xs.length ∧ i = .int .i64 k ∧ ∃ bw, p = .pointer (some ⟨bw, 0, none⟩) ∧ Hid (∃ g r, Rs w W N b bw n g r)) (fun _ i _ => xs.length - (intOf i).toNat)
    case atStart => exact ⟨0, Nat.zero_le _, rfl, _, rfl, Lib.hid ⟨_, _, HS0.out⟩⟩
    case round =>
      clear HS0 HB1
      obtain ⟨k, hk, rfl, bw, rfl, hS⟩ := hrel
      by_cases hlt : k < xs.length
      · have d1 : decide (k < xs.length) = true := decide_eq_true hlt
        obtain ⟨f, hf⟩ : ∃ f, xs[k]? = some f := ⟨_, List.getElem?_eq_getElem hlt⟩
        obtain ⟨ab, off, rfl, hab, hI⟩ := HX.out (by omega)
        obtain ⟨hff, hfb⟩ := HFX.out k f hf
        have hfw := hI k f hf
        have hS1 := hS.out
        have HBel := Lib.hid (show Below N w wr from by obtain ⟨g, r, h⟩ := hS1; exact h.bel)
        have hbB : b < wr.heap.size := by obtain ⟨g, r, h⟩ := hS1; exact h.gl.lt
        have hld : ldF (.pointer (some ⟨ab, off + k * 19, none⟩)) wr = _ := FrAt.ld (fun j v hv => kept_cell HBel.out hab (hfw j v hv))
        have hst := fun (y : Array Value) (h : y.size = 19) => stF_new wr wr.heap.size y f 37 rfl h
        have x18 := frA_18 f
        have hs18 := S_size f.bytes
        have hfbi : (f.bytes.length : Int) ≤ 9223372036854775807 := by unfold maxLen at hfb; omega
        have HI2 := Lib.hid (show ∃ g r, Rs w (wr.alloc (.cells (frA f) 37)) N b bw n g r ∧ FrAt (wr.alloc (.cells (frA f) 37)) wr.heap.size 0 f from by
          obtain ⟨g, r, h⟩ := hS1
          exact ⟨g, r, h.next (one_S _ _ _), FrAt.new _ _ _⟩)
        have HBx := Lib.hid (show Below N w (wr.alloc (.cells (frA f) 37)) from HBel.out.trans ((one_S _ _ _).mono (by obtain ⟨g, r, h⟩ := hS1; exact h.size)))
        have HF := Lib.hid (⟨hff, hfb⟩ : _ ∧ _)
        clear hS hS1 hfw hI hff hfb hf
        by_cases h40 : 40 < f.bytes.length
        · have d2 : decide ((40 : Int) < (f.bytes.length : Int)) = true := by simp; omega
          go_wp2
          go_ret
          exact ⟨rfl, hN ▸ HBx.out⟩
        · have d2 : decide ((40 : Int) < (f.bytes.length : Int)) = false := by simp; omega
          go_wp2_with fail
          refine world_cut (G := fun W => Code.wp _ _ _ _ W) (fun W => ∃ g r, Rs w W N b bw n g r ∧ FrAt W wr.heap.size 0 f) (by exact HI2.out) ?_
          rintro W1 hW1
          have HW1 := Lib.hid hW1
          clear hW1 HI2 HBx HBel hld hst x18
          generalize wr.heap.size = B at *
          go_loopw [11, 76] (fun p i W => ∃ j : Nat, j ≤ cs.length ∧ i = .int .i64 j ∧ ∃ bw, p = .pointer (some ⟨bw, 0, none⟩) ∧ Hid (∃ g r, Rs w W N b bw n g r ∧ FrAt W B 0 f)) (fun _ i _ => cs.length - (intOf i).toNat)
          case atStart => exact ⟨0, Nat.zero_le _, rfl, _, rfl, HW1⟩
          case round =>
            clear HW1
            obtain ⟨j, hj, rfl, bw2, rfl, hI3⟩ := hrel
            by_cases hjl : j < cs.length
            · have d3 : decide (j < cs.length) = true := decide_eq_true hjl
              obtain ⟨x, hx⟩ : ∃ x, cs[j]? = some x := ⟨_, List.getElem?_eq_getElem hjl⟩
              have hx8 := HC8.out j x hx
              have hx8i : (x : Int) ≤ 255 := by omega
              obtain ⟨cb, co, rfl, hcb, hIc⟩ := HC.out (by omega)
              have hcw := hIc j x hx
              obtain ⟨g, r, h, hfr⟩ := hI3.out
              have hcell := kept_cell h.bel hcb hcw
              have HH := Lib.hid h
              have HFr := Lib.hid hfr
              clear hI3 hcw hIc hx h hfr
              by_cases hxk : x = k
              · have d4 : ((x : Int) == (k : Int)) = true := by simp [hxk]
                have d5 : (x == k) = true := by simp [hxk]
                go_wp2_with fail
                refine (cClear b n g _ HH.out.gl).mono ?_
                rintro e w3 ⟨rfl, hg3, ho3, -⟩
                have HS3 := Lib.hid (show ∃ g r, Rs w (w3.alloc (.cells #[.int .i64 n, .bool false, .int .u16 0, .int .u32 0, .slice none 0 0] 41)) N b w3.heap.size n g r ∧ FrAt (w3.alloc (.cells #[.int .i64 n, .bool false, .int .u16 0, .int .u32 0, .slice none 0 0] 41)) B 0 f from
                  ⟨g0, _, HH.out.clear ho3 hg3, (HFr.out.only ho3 (by simp; omega)).below (one_S _ _ _)⟩)
                clear hg3 ho3 HH HFr hcell
                go_wp2
                go_roundw
                case rel => exact ⟨j + 1, by omega, by go_num, _, rfl, HS3⟩
                case measure => simp [intOf]; omega
              · have d4 : ((x : Int) == (k : Int)) = false := by simp; omega
                have d5 : (x == k) = false := by simp; omega
                have HS3 := Lib.hid (show ∃ g r, Rs w wr N b bw2 n g r ∧ FrAt wr B 0 f from ⟨g, r, HH.out, HFr.out⟩)
                clear HH HFr hxk
                go_wp2
                go_roundw
                case rel => exact ⟨j + 1, by omega, by go_num, _, rfl, HS3⟩
                case measure => simp [intOf]; omega
            · obtain rfl : j = cs.length := by omega
              have d3 : decide (cs.length < cs.length) = false := by simp
              obtain ⟨g, r, h, hfr⟩ := hI3.out
              have HH := Lib.hid h
              have HFr := Lib.hid hfr
              have hld := hfr.ld
              clear hI3 h hfr
              go_wp2_with fail
              refine (cPut b n g f _ HH.out.gl HH.out.wg hn1 HF.out.1 HF.out.2).mono ?_
              rintro e w3 ⟨rfl, hg3, ho3⟩
              have HM := Lib.hid (HH.out.put ho3 hg3)
              have HFr3 := Lib.hid (HFr.out.only ho3 (by simp; omega))
              have hwg := put_wg HH.out.wg HF.out.1
              have HP := Lib.hid (rPut bw2 r n g f w3 HM.out.rf HH.out.wg hn1 HF.out.1 HF.out.2)
              have hld := HFr3.out.ld
              clear hg3 ho3
              unfold putV
              go_wp2_with fail
              refine HP.out.mono ?_
              rintro e w4 ⟨rfl, r', hr4, ho4, hn4⟩
              have HR4 := Lib.hid (HM.out.put ho4 hr4 hn4 hwg)
              clear ho4 hr4 hn4 HP HM HFr3 hld
              unfold rputV
              have HA := Lib.hid (cAt b n (putG n g f) w4 HR4.out.gl hwg hn1)
              go_wp2_with fail
              refine HA.out.mono ?_
              rintro e w5 ⟨rfl, hb5⟩
              have HR5 := Lib.hid (HR4.out.next hb5)
              clear hb5 HA HR4
              have hGl : (putG n g f).came.length ≤ 100 := by
                cases hi : (putG n g f).is
                · rw [hwg.none hi]; simp [g0]
                · rw [hwg.len hi]; have := (pN_bd hn1.1 hn1.2).2; omega
              have HCnt := Lib.hid (fun W (h : RAt W bw2 r' n (putG n g f)) => rCount bw2 r' n (putG n g f) W h hwg.none hGl)
              have HK := Lib.hid (fun W (h : Rs w W N b bw2 n (putG n g f) r') => (⟨h.rf.c1, h.rf.c2, h.rf.c3⟩ : _ ∧ _ ∧ _))
              clear hwg hGl HH HFr
              obtain ⟨G, hG⟩ : ∃ G, G = putG n g f := ⟨_, rfl⟩
              rw [← hG] at HR5 HCnt HK
              rw [← hG]
              clear hG
              generalize S (outB n g f) = O at *
              generalize doneB n g f = D at *
              generalize ((errB n g f : Nat) : Int) = E at *
              go_wp2
              refine world_cut (G := fun W => Code.wp _ _ _ _ W) (fun W => Rs w W N b bw2 n G r' ∧ W.cell? ⟨w5.heap.size, 0, none⟩ = some (.int .u16 G.inc) ∧ W.cell? ⟨w5.heap.size, 1, none⟩ = some (.int .u32 G.seq)) (by exact ⟨HR5.out.next (one_S _ _ _), (two_cells _ _ _ _).1, (two_cells _ _ _ _).2⟩) ?_
              rintro W6 ⟨hR6, v0, v1⟩
              obtain ⟨q1, q2, q3⟩ := HK.out W6 hR6
              have HR6 := Lib.hid hR6
              clear hR6 HR5
              generalize w5.heap.size = B2 at *
              go_region_held3 (fun W' => W'.cell? ⟨bw2, 1, none⟩ = some (.bool G.is) ∧ W'.cell? ⟨B2, 0, none⟩ = some (.int .u16 G.inc) ∧ W'.cell? ⟨B2, 1, none⟩ = some (.int .u32 G.seq) ∧ W'.cell? ⟨bw2, 2, none⟩ = some (.int .u16 G.inc) ∧ W'.cell? ⟨bw2, 3, none⟩ = some (.int .u32 G.seq)) (first | exact ⟨q1, v0, v1, q2, q3⟩)
                ((go_at_call 12; (with_reducible refine (HCnt.out _ HR6.out.rf.drew).mono ?_); rintro e w7 ⟨rfl, rfl⟩))
              have HS7 := Lib.hid (show ∃ g r, Rs w W6.drew N b bw2 n g r from ⟨_, _, HR6.out.drew⟩)
              go_wp2
              go_roundw
              case rel => exact ⟨k + 1, by omega, by go_num, _, rfl, HS7⟩
              case measure => simp [intOf]; omega
      · obtain rfl : k = xs.length := by omega
        have d1 : decide (xs.length < xs.length) = false := by simp
        have HB := Lib.hid (show Below N w wr from by obtain ⟨g, r, h⟩ := hS.out; exact h.bel)
        go_wp2
        go_ret
        exact ⟨rfl, hN ▸ HB.out⟩
  · have hp0 : partsN z = 0 := by unfold partsN; rw [if_neg hn]
    have HNo := Lib.hid (fun W => cNew_no z W hp0)
    have HPn := Lib.hid (fun W => cPut_nil (frK 4) W)
    have hk4 : ∀ W, bdF #[(0, .int .i64 4)] W = .ok (.value (.agg (frA (frK 4)))) W := bdF_k 4
    by_cases h1 : z < 1
    · have e3 : decide (z < 1) = true := by simp; omega
      clear hn hp0
      go_enter Try.func3, Try.ntmps3
      go_wp2_with fail
      refine (wake_any _).mono ?_
      rintro e w1 ⟨rfl, hb1⟩
      have HB1 := Lib.hid hb1
      clear hb1
      go_wp2_with fail
      refine (HNo.out _).mono ?_
      rintro e w2 ⟨rfl, rfl⟩
      go_wp2_with fail
      refine (HPn.out _).mono ?_
      rintro e w3 ⟨rfl, hb3⟩
      have HB3 := Lib.hid (HB1.out.trans (hb3.mono HB1.out.size))
      clear hb3
      go_wp2
      go_ret
      exact ⟨rfl, HB3.out⟩
    · have e3 : decide (z < 1) = false := by simp; omega
      have e4 : decide (64 < z) = true := by simp; omega
      clear hn hp0
      go_enter Try.func3, Try.ntmps3
      go_wp2_with fail
      refine (wake_any _).mono ?_
      rintro e w1 ⟨rfl, hb1⟩
      have HB1 := Lib.hid hb1
      clear hb1
      go_wp2_with fail
      refine (HNo.out _).mono ?_
      rintro e w2 ⟨rfl, rfl⟩
      go_wp2_with fail
      refine (HPn.out _).mono ?_
      rintro e w3 ⟨rfl, hb3⟩
      have HB3 := Lib.hid (HB1.out.trans (hb3.mono HB1.out.size))
      clear hb3
      go_wp2
      go_ret
      exact ⟨rfl, HB3.out⟩
end Go.Proofs.Ytcbngcigoncfdaa.Pa
