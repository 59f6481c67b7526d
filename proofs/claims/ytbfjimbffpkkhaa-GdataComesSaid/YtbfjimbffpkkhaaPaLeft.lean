/-
  What is left of a value's frames: lists of frames appended, one taken out. Conditions: as each states.
-/
import Derived.Test.YtbfjimbffpkkhaaPaPlain
import Derived.Test.YtbfjimbffpkkhaaPaRSplit
import Derived.ArgAppend
import Derived.Laws.AppendOwnNone
namespace Go.Proofs.Ytbfjimbffpkkhaa.Pa
open Go.RowKit

set_option maxRecDepth 100000 in
set_option maxHeartbeats 4000000 in
theorem neqF (f : Fr) (W : World) : (binOp .neq 33 (.agg (frA f)) (.agg (frA f))).run Try.prog W = .ok (.bool false) W := by
  unfold frA frC
  go_simp

/-- Frames in a row: where. -/
def LR (W : World) (v : Value) (l : List Fr) : Prop := ∃ g cap, v = .slice (some ⟨g, 0, none⟩) l.length cap ∧ l.length ≤ cap ∧ g < W.heap.size ∧ ∀ (i : Nat) (f : Fr), l[i]? = some f → FrAt W g (i * 19) f
theorem LR.below {W W' : World} {v : Value} {l : List Fr} (h : LR W v l) (hb : Below W.heap.size W W') : LR W' v l := by
  obtain ⟨g, cap, rfl, h1, h2, h3⟩ := h
  exact ⟨g, cap, rfl, h1, by have := hb.size; omega, fun i f hf => (h3 i f hf).below hb⟩
theorem FRow.lr {N : Nat} {W : World} {v : Value} {l : List Fr} (h : FRow N W v l) (h1 : 1 ≤ l.length) : LR W v l := by
  obtain ⟨g, cap, rfl, _, hlt⟩ := World.ownsRow.form h (by omega)
  refine ⟨g, cap, rfl, ?_, hlt, fun i f hf => h.at hf⟩
  rcases h.2 with ⟨e, h0⟩ | ⟨g', cap', cur, e, _, _, hc, _⟩
  · omega
  · injection e with _ _ e
    omega
theorem frs_one19 (l : List Fr) : ∀ u ∈ frs l, u.oneCell' = true := by
  intro u hu
  unfold frs at hu
  rw [List.mem_flatMap] at hu
  obtain ⟨f, _, hu⟩ := hu
  exact frA_one19 f u hu
/-- Cells of frames that lie one behind the other. -/
theorem frs_cells {W : World} {g o : Nat} : ∀ {l : List Fr}, (∀ (i : Nat) (f : Fr), l[i]? = some f → FrAt W g (o + i * 19) f) → ∀ (j : Nat) (u : Value), (frs l)[j]? = some u → W.cell? ((⟨g, o, none⟩ : Addr).add j) = some u := fun {l} h j u hj => by
  rw [Addr.add_mid]
  have hjl := (List.getElem?_eq_some_iff.1 hj).1
  rw [frs_len] at hjl
  have hk : j / 19 < l.length := by omega
  obtain ⟨f, hf⟩ : ∃ f, l[j / 19]? = some f := ⟨_, List.getElem?_eq_getElem hk⟩
  have e : j = j / 19 * 19 + j % 19 := by omega
  have h1 := frs_at hf (Nat.mod_lt j (by omega : 0 < 19))
  rw [← e, hj] at h1
  have := h _ f hf (j % 19) u h1.symm
  rw [show o + j / 19 * 19 + j % 19 = o + j by omega] at this
  exact this
set_option maxRecDepth 100000 in
theorem sl_k (g m cap k : Nat) (hk : k ≤ cap) (W : World) : (Instr.sliceAt 40 (.slice (some ⟨g, 0, none⟩) m cap) none (some (.int .i64 (k : Int))) (some (.int .i64 (k : Int)))).run Try.prog W = .ok (.slice (some ⟨g, 0, none⟩) k k) W := by
  rw [run_sliceAt_slice (P := Try.prog) W 40 _ _ _ _ Try.underlying40, run_slice_hm (P := Try.prog) W 40 (some ⟨g, 0, none⟩) m cap Try.underlying40 .i64 .i64 (k : Int) (k : Int) (by omega) (by omega) (by omega)]
  have hs : (sizeOf (Try.prog.elem 40)).run Try.prog W = .ok 19 W := by go_simp
  rw [hs]
  show Result.ok (sliced _ _ _ _ 19) W = _
  unfold sliced
  rw [Int.toNat_natCast]
  congr 2
  split
  · rfl
  · simp [Addr.add]
set_option maxRecDepth 100000 in
theorem sl_r (g m cap k : Nat) (hk : k < m) (hm : m ≤ cap) : ∃ ad : Addr, (k + 1 < m → ad = ⟨g, (k + 1) * 19, none⟩) ∧ ∀ W : World, (Instr.sliceAt 40 (.slice (some ⟨g, 0, none⟩) m cap) (some (.int .i64 ((k : Int) + 1))) none none).run Try.prog W = .ok (.slice (some ad) (m - (k + 1)) (cap - (k + 1))) W := by
  have key : ∀ W : World, (Instr.sliceAt 40 (.slice (some ⟨g, 0, none⟩) m cap) (some (.int .i64 ((k : Int) + 1))) none none).run Try.prog W = .ok (sliced (some ⟨g, 0, none⟩) (k + 1) m cap 19) W := fun W => by
    rw [run_sliceAt_slice (P := Try.prog) W 40 _ _ _ _ Try.underlying40, run_slice_l (P := Try.prog) W 40 (some ⟨g, 0, none⟩) m cap Try.underlying40 .i64 ((k : Int) + 1) (by omega) (by omega)]
    have hs : (sizeOf (Try.prog.elem 40)).run Try.prog W = .ok 19 W := by go_simp
    rw [hs, show ((k : Int) + 1).toNat = k + 1 by omega]
    rfl
  by_cases e : cap = k + 1
  · refine ⟨⟨g, 0, none⟩, fun h => by omega, fun W => ?_⟩
    rw [key W]
    show Result.ok (sliced _ _ _ _ 19) W = _
    unfold sliced
    rw [if_pos e]
  · refine ⟨⟨g, (k + 1) * 19, none⟩, fun _ => rfl, fun W => ?_⟩
    rw [key W]
    show Result.ok (sliced _ _ _ _ 19) W = _
    unfold sliced
    rw [if_neg e]
    simp [Addr.add_mid]

set_option maxRecDepth 100000 in
/-- append(l[:k:k], l[k+1:]...), as one step of a region that draws. -/
theorem step_er {ops : Array Oper} {o : Oper} {a : Act} {w : World} {K : Act → World → Prop} {Q : Exit → Act → World → Prop} {E : Prop} (hgd : o.guard = none) (s x : Operand)
    (ho : o.op = .call { callee := .builtin .append, args := #[s, x], argTypes := #[40, 40] })
    (g k m c : Nat) (ad : Addr) (l : List Fr) (hl : l.length = m) (hk : k < m) (hm : m ≤ 100) (had : k + 1 < m → ad = ⟨g, (k + 1) * 19, none⟩) (hg : g < w.heap.size) (hI : ∀ (i : Nat) (f : Fr), l[i]? = some f → FrAt w g (i * 19) f)
    (hs : a.eval s = .slice (some ⟨g, 0, none⟩) k k) (hx : a.eval x = .slice (some ad) (m - (k + 1)) c)
    (h : ∀ v' w', LR w' v' (erL l k) → Below w.heap.size w w' → (∀ q c2 n, v' = .slice (some ⟨q, 0, none⟩) n c2 → q = g ∨ w.heap.size ≤ q) → K (a.put o.dst v') w') :
    if Region.wanted o (yielded ops a.tmps) = true then Oper.wp Try.prog o a w K Q else E := by
  have hw : Region.wanted o (yielded ops a.tmps) = true := by simp [Region.wanted, hgd]
  rw [if_pos hw]
  obtain ⟨i0, hi, hz0, hz1, hz2⟩ := info_parts infoFr
  have hlk : (l.take k).length = k := by rw [List.length_take]; omega
  have hld : (l.drop (k + 1)).length = m - (k + 1) := by rw [List.length_drop, hl]
  suffices hrun : ∃ v' w', (Builtin.append_ #[40, 40] o.type #[.slice (some ⟨g, 0, none⟩) k k, .slice (some ad) (m - (k + 1)) c]).run Try.prog w = .ok v' w' ∧ LR w' v' (erL l k) ∧ Below w.heap.size w w' ∧ (∀ q c2 n, v' = .slice (some ⟨q, 0, none⟩) n c2 → q = g ∨ w.heap.size ≤ q) by
    obtain ⟨v', w', hr, h1, h2, h3⟩ := hrun
    unfold Oper.wp execOp
    simp only [ho, resolve, invoke, builtin, Sem.run_bind, Sem.run_pure, Result.andThen_ok, List.map_toArray, List.map_cons, List.map_nil, hs, hx, hr]
    exact h v' w' h1 h2 h3
  by_cases hlast : k + 1 < m
  · have hads := had hlast
    subst hads
    obtain ⟨v', w', hr, hown, hgr⟩ := run_append_arg_grows (P := Try.prog) w 40 o.type 33 i0 _ 19 64 Try.underlying40 hi hz0 hz1 hz2 rfl (by decide) ⟨g, 0, none⟩ k k (frs (l.take k)) (by rw [frs_len, hlk])
      (frs_cells fun i f hf => by
        have hik := (List.getElem?_eq_some_iff.1 hf).1
        rw [hlk] at hik
        rw [List.getElem?_take, if_pos hik] at hf
        rw [Nat.zero_add]
        exact hI i f hf)
      ⟨g, (k + 1) * 19, none⟩ (m - (k + 1)) c (frs (l.drop (k + 1))) (by rw [frs_len, hld])
      (frs_cells fun i f hf => by
        rw [List.getElem?_drop] at hf
        have := hI _ f hf
        rw [show (k + 1 + i) * 19 = (k + 1) * 19 + i * 19 by omega] at this
        exact this)
      (by omega) (by unfold maxLen; omega) (by omega)
    have hrow : FRow w.heap.size w' v' (erL l k) := by
      unfold FRow erL
      rw [List.length_append, hlk, hld, frs_app]
      exact hown
    refine ⟨v', w', hr, ?_, ⟨hgr.os, hgr.tape, hgr.output, hgr.size, fun j hj => hgr.block j hj (by simp)⟩, fun q c2 n e => .inr (own_base hrow q (by rw [e]; rfl))⟩
    exact hrow.lr (by unfold erL; rw [List.length_append, hlk, hld]; omega)
  · have hm0 : m - (k + 1) = 0 := by omega
    rw [hm0]
    refine ⟨.slice (some ⟨g, 0, none⟩) k k, w, ?_, ?_, Below.refl _ _, fun q c2 n e => .inl (by injection e with e; injection e with e; injection e with e; exact e.symm)⟩
    · have hfc := run_firstCells_some (P := Try.prog) w 19 0 ad 0 c [] rfl (by simp)
      simp [Builtin.append_, run_underlying Try.underlying40, sizeOf, typeInfo, hi, hz1, Builtin.lenOf, hfc, storeCells]
    · have he : erL l k = l.take k := by unfold erL; rw [List.drop_eq_nil_of_le (by omega), List.append_nil]
      rw [he]
      refine ⟨g, k, by rw [hlk], by omega, hg, fun i f hf => hI i f ?_⟩
      have hik := (List.getElem?_eq_some_iff.1 hf).1
      rw [hlk] at hik
      rwa [List.getElem?_take, if_pos hik] at hf

set_option maxRecDepth 100000 in
set_option maxHeartbeats 2000000 in
theorem cSplit_no (f : Fr) (v : Bs) (w : World) (hv : v.length ≤ maxLen) (h0 : nP v = 0) :
    Calls Try.prog 28 #[.agg (frA f), .string (S v)] w (Tells (.slice none 0 0) w) := by
  have hs : (S v).size = v.length := S_size v
  have hmi : (v.length : Int) ≤ 9223372036854775807 := by unfold maxLen at hv; omega
  have HPa := Lib.hid (fun W => cParts_any v.length W)
  rw [nP_parts, h0] at HPa
  have HB := Lib.hid (one_S w (((frA f).setIfInBounds 0 (.int .i64 4)).setIfInBounds 17 (.int .u8 0)) 33)
  have hsz := frA_size f
  clear h0
  generalize frA f = X at *
  go_enter Try.func28, Try.ntmps28
  go_wp2_with fail
  refine (HPa.out _).mono ?_
  rintro e w1 ⟨rfl, rfl⟩
  simp only [show ((0 : Nat) : Int) = 0 from rfl]
  go_wp2
  go_loop [5, 16] (fun t i => t = .slice none 0 0 ∧ i = .int .i64 0) (fun _ _ => 0)
  case atStart => exact ⟨rfl, rfl⟩
  case round =>
    obtain ⟨rfl, rfl⟩ := hrel
    go_wp2
    go_ret
    exact ⟨rfl, HB.out⟩
end Go.Proofs.Ytbfjimbffpkkhaa.Pa
