/-
  The landed program in memory; its mark and readOperand; what it reads of words, against what is assembled; readAlone, readAsking, read, walked. Conditions: that its object lies there; the texts are of at most 100000 bytes.
-/
import Derived.Test.YtpnjhodpbjhmcaaGreatDoorIkX
import Derived.MapKept
import Derived.OwnWalk
import Derived.Laws.OwnMore
import Derived.Maps.AppendAt
import Derived.Deep.AppendLies
import Derived.Deep.RegionHeldLaw
import Derived.StillTailTactics
namespace Go.Proofs.YtpnjhodpbjhmcaaGreatDoor.Il
open Go.RowKit
open Go.Proofs.YtpnjhodpbjhmcaaGreatDoor.Ic

/-! ### Maps -/
/-- What a map holds. -/
def MapAt (w : World) (r : Nat) (kv : List (Bs × Value)) : Prop := ∃ es clock, w.heap[r]? = some (.map es clock) ∧ es.toList.map (fun x => (x.key, x.val)) = kv.map (fun p => (Value.string (S p.1), p.2))
theorem look_cons {β : Type} (p : Bs × β) (l : List (Bs × β)) (k : Bs) : look (p :: l) k = if p.1 = k then some p.2 else look l k := by
  unfold look
  rw [List.find?_cons]
  by_cases h : p.1 = k
  · rw [decide_eq_true h, if_pos h]; rfl
  · rw [decide_eq_false h, if_neg h]
theorem look_mapF {β γ : Type} (f : β → γ) (k : Bs) : ∀ l : List (Bs × β), look (l.map fun q => (q.1, f q.2)) k = (look l k).map f
  | [] => rfl
  | q :: l => by
    rw [List.map_cons, look_cons, look_cons, look_mapF f k l]
    dsimp only
    split <;> rfl
theorem S_beq (a b : Bs) : (S a == S b) = decide (a = b) := by
  by_cases h : a = b
  · subst h
    rw [decide_eq_true rfl]
    exact (MapKept.bytes_beq _ _).2 rfl
  · rw [decide_eq_false h, ← Bool.not_eq_true]
    intro e
    exact h (S_inj ((MapKept.bytes_beq _ _).1 e))
theorem find_look (k : Bs) : ∀ (l : List MapEntry) (kv : List (Bs × Value)) (i : Nat), l.map (fun x => (x.key, x.val)) = kv.map (fun p => (Value.string (S p.1), p.2)) →
    ∃ j, Instr.findNow .string (.string (S k)) l i = some ((look kv k).map fun v => (j, v))
  | [], [], _, _ => ⟨0, rfl⟩
  | [], _ :: _, _, h => by simp at h
  | _ :: _, [], _, h => by simp at h
  | e :: l, p :: kv, i, h => by
    simp only [List.map_cons, List.cons.injEq, Prod.mk.injEq] at h
    obtain ⟨⟨h1, h2⟩, h3⟩ := h
    have hs : Instr.sameNow .string (.string (S k)) e.key = some (decide (k = p.1)) := by
      rw [h1]
      show some (S k == S p.1) = _
      rw [S_beq]
    by_cases hp : p.1 = k
    · refine ⟨i, ?_⟩
      unfold Instr.findNow
      rw [hs, decide_eq_true hp.symm, look_cons, if_pos hp, h2]
      rfl
    · obtain ⟨j, hj⟩ := find_look k l kv (i + 1) h3
      refine ⟨j, ?_⟩
      unfold Instr.findNow
      rw [hs, decide_eq_false (fun e => hp e.symm), look_cons, if_neg hp]
      exact hj
theorem run_look {w : World} {r : Nat} {kv : List (Bs × Value)} (h : MapAt w r kv) (k : Bs) {mty kt et : TypeId} {z : Value} (hm : Tryz.prog.underlying mty = some (.map kt et)) (hk : Tryz.prog.underlying kt = some .string) (hz : (zeroValue et).run Tryz.prog w = .ok z w) :
    (Instr.lookup mty (.map (some r)) (.string (S k)) true).run Tryz.prog w = .ok (.tuple #[(look kv k).getD z, .bool (look kv k).isSome]) w := by
  obtain ⟨es, clock, hb, he⟩ := h
  obtain ⟨j, hj⟩ := find_look k es.toList kv 0 he
  have hc : ∀ b, (Instr.checkKey b 10000 kt (.string (S k))).run Tryz.prog w = .ok () w := fun b => MapKept.run_checkKey (k := .string (S k)) hk (by simp [MapKept.IsKey]) b 9999
  cases hl : look kv k with
  | none =>
    rw [hl] at hj
    simp [Instr.lookup, run_underlying hm, MapKept.run_getObj_map hb, hc, MapKept.run_findKey hk hj, hz, Result.andThen]
  | some v =>
    rw [hl] at hj
    simp [Instr.lookup, run_underlying hm, MapKept.run_getObj_map hb, hc, MapKept.run_findKey hk hj, Result.andThen]
/-- A block turned. -/
def putM (w : World) (r : Nat) (o : Obj) : World := { w with heap := w.heap.setIfInBounds r o }
theorem run_upd {w : World} {r : Nat} {kv : List (Bs × Value)} (h : MapAt w r kv) (k : Bs) (hl : look kv k = none) (val : Value) {mty kt et : TypeId} (hm : Tryz.prog.underlying mty = some (.map kt et)) (hk : Tryz.prog.underlying kt = some .string) :
    ∃ o, (∀ W : World, W.heap = w.heap → (Instr.mapUpdate mty (.map (some r)) (.string (S k)) val).run Tryz.prog W = .ok () (putM W r o)) ∧ ∀ W' : World, W'.heap[r]? = some o → MapAt W' r (kv ++ [(k, val)]) := by
  obtain ⟨es, clock, hb, he⟩ := h
  obtain ⟨j, hj⟩ := find_look k es.toList kv 0 he
  rw [hl] at hj
  refine ⟨.map (es.push { key := .string (S k), val := val, born := clock }) (clock + 1), fun W hW => ?_, fun W' h' => ⟨_, _, h', by simp [he]⟩⟩
  rw [← hW] at hb
  have hc : (Instr.checkKey false 10000 kt (.string (S k))).run Tryz.prog W = .ok () W := MapKept.run_checkKey (k := .string (S k)) hk (by simp [MapKept.IsKey]) false 9999
  simp [Instr.mapUpdate, run_underlying hm, MapKept.run_getObj_map hb, hc, MapKept.run_findKey hk hj, MapKept.run_setObj_map _ hb, Result.andThen]
  rfl
theorem putM_at {w : World} {r : Nat} {o : Obj} (h : r < w.heap.size) : (putM w r o).heap[r]? = some o := by simp [putM, h]
theorem putM_other {w : World} {r k : Nat} {o : Obj} (h : k ≠ r) : (putM w r o).heap[k]? = w.heap[k]? := by simp [putM, Ne.symm h]
theorem putM_size (w : World) (r : Nat) (o : Obj) : (putM w r o).heap.size = w.heap.size := by simp [putM]

/-! ### The frame -/
structure OnlyL (ms : List Nat) (w w' : World) : Prop where
  os : w'.os = w.os
  tape : w'.tape = w.tape
  output : w'.output = w.output
  size : w.heap.size ≤ w'.heap.size
  block : ∀ k, k < w.heap.size → k ∉ ms → w'.heap[k]? = w.heap[k]?
theorem OnlyL.refl (ms : List Nat) (w : World) : OnlyL ms w w := ⟨rfl, rfl, rfl, Nat.le_refl _, fun _ _ _ => rfl⟩
theorem OnlyL.of_below {ms : List Nat} {w w' : World} (h : Below w.heap.size w w') : OnlyL ms w w' := ⟨h.os, h.tape, h.output, h.size, fun k hk _ => h.block k hk⟩
theorem OnlyL.trans {ms ns : List Nat} {a b c : World} (h : OnlyL ms a b) (k : OnlyL ns b c) (hn : ∀ j ∈ ns, j ∈ ms ∨ a.heap.size ≤ j) : OnlyL ms a c :=
  ⟨k.os.trans h.os, k.tape.trans h.tape, k.output.trans h.output, Nat.le_trans h.size k.size, fun j hj hm => (k.block j (Nat.lt_of_lt_of_le hj h.size) (fun hin => (hn j hin).elim hm (by omega))).trans (h.block j hj hm)⟩
theorem OnlyL.below {ms : List Nat} {N : Nat} {w w' : World} (h : OnlyL ms w w') (hm : ∀ j ∈ ms, N ≤ j) (hN : N ≤ w.heap.size) : Below N w w' :=
  ⟨h.os, h.tape, h.output, h.size, fun k hk => h.block k (by omega) (fun hin => by have := hm k hin; omega)⟩
theorem OnlyL.drew {ms : List Nat} {a w : World} (h : OnlyL ms a w) : OnlyL ms a w.drew := ⟨h.os, h.tape, h.output, h.size, h.block⟩
theorem OnlyL.put {ms : List Nat} {w : World} {r : Nat} (hr : r ∈ ms) (o : Obj) : OnlyL ms w (putM w r o) :=
  ⟨rfl, rfl, rfl, by rw [putM_size]; exact Nat.le_refl _, fun _ _ hn => putM_other (fun e => hn (e ▸ hr))⟩
theorem set_other {w : World} {b k j : Nat} {v : Value} (h : j ≠ b) : (w.setCell ⟨b, k, none⟩ v).heap[j]? = w.heap[j]? := by
  simp only [World.setCell]
  rw [Array.getElem?_modify, if_neg (fun e => h e.symm)]
theorem OnlyL.set {ms : List Nat} {w : World} {b : Nat} (hb : b ∈ ms) (k : Nat) (v : Value) : OnlyL ms w (w.setCell ⟨b, k, none⟩ v) :=
  ⟨rfl, rfl, rfl, by simp [World.setCell], fun _ _ hn => set_other (fun e => hn (e ▸ hb))⟩
theorem OnlyL.cell {ms : List Nat} {w w' : World} (h : OnlyL ms w w') {g k : Nat} {v : Value} (hg : g ∉ ms) (hc : w.cell? ⟨g, k, none⟩ = some v) : w'.cell? ⟨g, k, none⟩ = some v :=
  (World.cell?_of_block (a := ⟨g, k, none⟩) (h.block g (World.block_lt_of_cell? w _ hc) hg)).trans hc

/-! ### The program's object -/
structure Raw where
  places : List (Bs × In)
  labels : List (Bs × Nat)
  code : List In
  leaps : List (Nat × Nat × Bs)
def cells5 (i : In) : List Value := [.int .i64 i.op, .int .i64 i.kd, .int .i64 i.ar, .int .i64 i.pl, .int .i64 i.n]
def cells3 (x : Nat × Nat × Bs) : List Value := [.int .i64 x.1, .int .i64 x.2.1, .string (S x.2.2)]
def flat5 (l : List In) : List Value := l.flatMap cells5
def flat3 (l : List (Nat × Nat × Bs)) : List Value := l.flatMap cells3
def placesV (l : List (Bs × In)) : List (Bs × Value) := l.map fun q => (q.1, insV q.2)
def labelsV (l : List (Bs × Nat)) : List (Bs × Value) := l.map fun q => (q.1, .int .i64 (q.2 : Nat))
def own (v : Value) : List Nat := v.ownBlock.toList
/-- The object at p, when that was read. -/
def RawAt (w : World) (p : Nat) (ms : List Nat) (x : Raw) : Prop := ∃ rp rl cv lv, ms = p :: rp :: rl :: (own cv ++ own lv) ∧ rp ≠ rl ∧
  w.heap[p]? = some (.cells #[.map (some rp), .map (some rl), cv, lv] 55 (0, 0)) ∧ MapAt w rp (placesV x.places) ∧ MapAt w rl (labelsV x.labels) ∧
  w.ownsRow 0 34 5 cv x.code.length (flat5 x.code) ∧ w.ownsRow 0 84 3 lv x.leaps.length (flat3 x.leaps)
theorem own_of {w w' : World} {e : TypeId} {size n : Nat} {v : Value} {xs : List Value} (h : w.ownsRow 0 e size v n xs) (hb : ∀ k ∈ own v, w'.heap[k]? = w.heap[k]?) : w'.ownsRow 0 e size v n xs := by
  refine ⟨h.1, ?_⟩
  rcases h.2 with hn | ⟨g, cap, cur, rfl, h0, hg, rest⟩
  · exact .inl hn
  · exact .inr ⟨g, cap, cur, rfl, h0, by rw [hb g (by simp [own, Value.ownBlock])]; exact hg, rest⟩
theorem map_of {w w' : World} {r : Nat} {kv : List (Bs × Value)} (h : MapAt w r kv) (hb : w'.heap[r]? = w.heap[r]?) : MapAt w' r kv := by
  obtain ⟨es, clock, h1, h2⟩ := h
  exact ⟨es, clock, hb.trans h1, h2⟩
theorem RawAt.of {w w' : World} {p : Nat} {ms : List Nat} {x : Raw} (h : RawAt w p ms x) (hb : ∀ k ∈ ms, w'.heap[k]? = w.heap[k]?) : RawAt w' p ms x := by
  obtain ⟨rp, rl, cv, lv, rfl, hne, hp, h1, h2, h3, h4⟩ := h
  exact ⟨rp, rl, cv, lv, rfl, hne, (hb p (by simp)).trans hp, map_of h1 (hb rp (by simp)), map_of h2 (hb rl (by simp)), own_of h3 (fun k hk => hb k (by simp [hk])), own_of h4 (fun k hk => hb k (by simp [hk]))⟩
theorem own_lt {w : World} {e : TypeId} {size n : Nat} {v : Value} {xs : List Value} (h : w.ownsRow 0 e size v n xs) : ∀ k ∈ own v, k < w.heap.size ∧ ∃ cur, w.heap[k]? = some (.cells cur e (0, 0)) := by
  intro k hk
  rcases h.2 with ⟨rfl, -⟩ | ⟨g, cap, cur, rfl, h0, hg, rest⟩
  · simp [own, Value.ownBlock] at hk
  · simp [own, Value.ownBlock] at hk
    subst hk
    exact ⟨(Array.getElem?_eq_some_iff.1 hg).1, cur, hg⟩
theorem map_lt {w : World} {r : Nat} {kv : List (Bs × Value)} (h : MapAt w r kv) : r < w.heap.size := by
  obtain ⟨es, clock, h1, -⟩ := h
  exact (Array.getElem?_eq_some_iff.1 h1).1
theorem RawAt.lt {w : World} {p : Nat} {ms : List Nat} {x : Raw} (h : RawAt w p ms x) : ∀ k ∈ ms, k < w.heap.size := by
  obtain ⟨rp, rl, cv, lv, rfl, hne, hp, h1, h2, h3, h4⟩ := h
  intro k hk
  simp only [List.mem_cons, List.mem_append] at hk
  rcases hk with rfl | rfl | rfl | hk | hk
  · exact (Array.getElem?_eq_some_iff.1 hp).1
  · exact map_lt h1
  · exact map_lt h2
  · exact (own_lt h3 k hk).1
  · exact (own_lt h4 k hk).1
theorem RawAt.below {w w' : World} {p : Nat} {ms : List Nat} {x : Raw} (h : RawAt w p ms x) (hb : Below w.heap.size w w') : RawAt w' p ms x := h.of fun k hk => hb.block k (h.lt k hk)
theorem RawAt.drew {w : World} {p : Nat} {ms : List Nat} {x : Raw} (h : RawAt w p ms x) : RawAt w.drew p ms x := h
/-- What a call that turns it leaves. -/
def Done (p : Nat) (ms : List Nat) (v : Value) (x : Raw) (w : World) (e : Ending) (w' : World) : Prop :=
  e = .returned v ∧ ∃ ns, RawAt w' p ns x ∧ OnlyL ms w w' ∧ ∀ j ∈ ns, j ∈ ms ∨ w.heap.size ≤ j
theorem Done.same {w w' : World} {p : Nat} {ms : List Nat} {x : Raw} {v : Value} (h : RawAt w p ms x) (hb : Below w.heap.size w w') : Done p ms v x w (.returned v) w' :=
  ⟨rfl, ms, h.below hb, OnlyL.of_below hb, fun _ hj => .inl hj⟩

end Go.Proofs.YtpnjhodpbjhmcaaGreatDoor.Il

namespace Go.Proofs.YtpnjhodpbjhmcaaGreatDoor.Il
open Go.RowKit
open Go.Proofs.YtpnjhodpbjhmcaaGreatDoor.Ic

theorem RawAt.cells {w : World} {p rp rl : Nat} {cv lv : Value} (hp : w.heap[p]? = some (.cells #[.map (some rp), .map (some rl), cv, lv] 55 (0, 0))) :
    w.cell? ⟨p, 0, none⟩ = some (.map (some rp)) ∧ w.cell? ⟨p, 1, none⟩ = some (.map (some rl)) ∧ w.cell? ⟨p, 2, none⟩ = some cv ∧ w.cell? ⟨p, 3, none⟩ = some lv ∧ ∀ k, w.frozen? ⟨p, k, none⟩ = false := by
  refine ⟨?_, ?_, ?_, ?_, fun k => ?_⟩
  · rw [cell_of_row _ _ 0 _ _ (0, 0) hp]; rfl
  · rw [cell_of_row _ _ 1 _ _ (0, 0) hp]; rfl
  · rw [cell_of_row _ _ 2 _ _ (0, 0) hp]; rfl
  · rw [cell_of_row _ _ 3 _ _ (0, 0) hp]; rfl
  · unfold World.frozen?
    rw [hp]
    simp
theorem own_form5 {w : World} {e : TypeId} {size n : Nat} {v : Value} {xs : List Value} (h : w.ownsRow 0 e size v n xs) : ∃ A c, v = .slice A n c := by
  rcases h.2 with ⟨rfl, h0⟩ | ⟨g, cap, cur, rfl, _⟩
  · exact ⟨none, 0, by rw [h0]⟩
  · exact ⟨_, _, rfl⟩
theorem zero_int (W : World) : (zeroValue 3).run Tryz.prog W = .ok (.int .i64 0) W := by
  have := Tryz.zeroValue3
  go_simp
theorem zero_ins (W : World) : (zeroValue 34).run Tryz.prog W = .ok (insV ⟨0, 0, 0, 0, 0⟩) W := by
  have := Tryz.zeroValue34
  unfold insV
  go_simp

theorem look_labels (l : List (Bs × Nat)) (k : Bs) : look (labelsV l) k = (look l k).map fun n => Value.int .i64 (n : Nat) := look_mapF (fun n : Nat => Value.int .i64 (n : Nat)) k l
theorem look_places (l : List (Bs × In)) (k : Bs) : look (placesV l) k = (look l k).map insV := look_mapF insV k l

/-- A map turned. -/
theorem Done.map {w : World} {p rp rl r : Nat} {cv lv v : Value} {x x' : Raw} {o : Obj}
    (HH : rp ≠ rl ∧ w.heap[p]? = some (.cells #[.map (some rp), .map (some rl), cv, lv] 55 (0, 0)) ∧ MapAt w rp (placesV x.places) ∧ MapAt w rl (labelsV x.labels) ∧ w.ownsRow 0 34 5 cv x.code.length (flat5 x.code) ∧ w.ownsRow 0 84 3 lv x.leaps.length (flat3 x.leaps))
    (hr : r = rp ∨ r = rl) (hc : x'.code = x.code) (hl : x'.leaps = x.leaps) (hP : MapAt (putM w.drew r o) rp (placesV x'.places)) (hL : MapAt (putM w.drew r o) rl (labelsV x'.labels)) :
    Done p (p :: rp :: rl :: (own cv ++ own lv)) v x' w (.returned v) (putM w.drew r o) := by
  obtain ⟨hne, hp, h1, h2, h3, h4⟩ := HH
  obtain ⟨es, ck, hm⟩ : ∃ es ck, w.heap[r]? = some (.map es ck) := by
    rcases hr with rfl | rfl
    · obtain ⟨es, ck, h, -⟩ := h1; exact ⟨es, ck, h⟩
    · obtain ⟨es, ck, h, -⟩ := h2; exact ⟨es, ck, h⟩
  have hk : ∀ k cs t fr, w.heap[k]? = some (Obj.cells cs t fr) → (putM w.drew r o).heap[k]? = w.heap[k]? := fun k cs t fr h => putM_other (w := w.drew) (fun e => by rw [e, hm] at h; cases h)
  refine ⟨rfl, p :: rp :: rl :: (own cv ++ own lv), ⟨rp, rl, cv, lv, rfl, hne, (hk _ _ _ _ hp).trans hp, hP, hL, ?_, ?_⟩, ?_, fun j hj => .inl hj⟩
  · rw [hc]
    refine own_of h3 fun k hkm => ?_
    obtain ⟨cur, hcur⟩ := (own_lt h3 k hkm).2
    exact hk _ _ _ _ hcur
  · rw [hl]
    refine own_of h4 fun k hkm => ?_
    obtain ⟨cur, hcur⟩ := (own_lt h4 k hkm).2
    exact hk _ _ _ _ hcur
  · refine (OnlyL.drew (OnlyL.refl _ w)).trans (OnlyL.put (w := w.drew) (ms := [r]) (by simp) o) (fun j hj => ?_)
    simp at hj
    subst hj
    rcases hr with rfl | rfl <;> simp

def markX (x : Raw) (nm : Bs) : Raw := if (look x.labels nm).isSome then x else ⟨x.places, x.labels ++ [(nm, x.code.length)], x.code, x.leaps⟩
def markE (x : Raw) (nm : Bs) : Int := if (look x.labels nm).isSome then 5 else 0

set_option maxRecDepth 100000 in
set_option maxHeartbeats 4000000 in
theorem cMark (p : Nat) (ms : List Nat) (x : Raw) (nm : Bs) (w : World) (h : RawAt w p ms x) :
    Calls Tryz.prog 50 #[.pointer (some ⟨p, 0, none⟩), .string (S nm)] w (Done p ms (.int .i64 (markE x nm)) (markX x nm) w) := by
  have hX := Lib.hid h
  obtain ⟨rp, rl, cv, lv, rfl, hne, hp, h1, h2, h3, h4⟩ := h
  obtain ⟨c0, c1, c2, c3, hf⟩ := RawAt.cells hp
  obtain ⟨A, c, rfl⟩ := own_form5 h3
  have hlk := run_look h2 nm (mty := 52) Tryz.underlying52 Tryz.underlying9 (zero_int w)
  rw [look_labels] at hlk
  unfold markE markX
  cases hl : look x.labels nm with
  | some n =>
    rw [hl] at hlk
    dsimp only [Option.map_some, Option.getD_some, Option.isSome_some] at hlk ⊢
    simp only [if_true]
    clear hl h1 h2 h3 h4 hp
    go_enter Tryz.func50, Tryz.ntmps50
    go_wp2
    go_ret
    exact Done.same hX.out (Below.refl _ _)
  | none =>
    rw [hl] at hlk
    dsimp only [Option.map_none, Option.getD_none, Option.isSome_none] at hlk ⊢
    simp only [Bool.false_eq_true, if_false]
    obtain ⟨o, ho, ho2⟩ := run_upd h2 nm (by rw [look_labels, hl]; rfl) (.int .i64 (x.code.length : Nat)) (mty := 52) Tryz.underlying52 Tryz.underlying9
    have hu0 := ho w rfl
    have hu1 := ho w.drew rfl
    have hrl := map_lt h2
    clear ho hl
    have HH := Lib.hid (⟨hne, hp, h1, h2, h3, h4⟩ : _ ∧ _ ∧ _ ∧ _ ∧ _ ∧ _)
    clear hne hp h1 h2 h3 h4
    go_enter Tryz.func50, Tryz.ntmps50
    go_wp2_with fail
    go_region
    all_goals
      go_wp2
      go_ret
      obtain ⟨hne, hp, h1, h2, h3, h4⟩ := HH.out
      refine Done.map HH.out (.inr rfl) rfl rfl (map_of h1 (putM_other (w := w.drew) hne)) ?_
      have := ho2 _ (putM_at (w := w.drew) (o := o) hrl)
      unfold labelsV at this ⊢
      rw [List.map_append]
      exact this

/-! ### Operands -/
/-- What readOperand answers. -/
def operI (places : List (Bs × In)) (s : Bs) : In × Int :=
  if nameB s = true then (match look places s with | some i => (i, 0) | none => (⟨0, 0, 0, 0, 0⟩, 5))
  else (match placeC s with | some i => (i, 0) | none => (match litB s with | some i => (i, 0) | none => (⟨0, 0, 0, 0, 0⟩, 0)))

set_option maxRecDepth 100000 in
set_option maxHeartbeats 4000000 in
theorem cOperand (p : Nat) (ms : List Nat) (x : Raw) (s : Bs) (hs : s.length ≤ 100000) (w : World) (h : RawAt w p ms x) (hE : Env w) :
    Calls Tryz.prog 97 #[.pointer (some ⟨p, 0, none⟩), .string (S s)] w (Tells (.tuple #[insV (operI x.places s).1, .int .i64 (operI x.places s).2]) w) := by
  obtain ⟨rp, rl, cv, lv, rfl, hne, hp, h1, h2, h3, h4⟩ := h
  obtain ⟨c0, c1, c2, c3, -⟩ := RawAt.cells hp
  have hpl : p < w.heap.size := (Array.getElem?_eq_some_iff.1 hp).1
  have HNM := Lib.hid (fun W => cIsName s hs W)
  have HPL := Lib.hid (fun W hE => cPlace s hs W hE)
  have HLT := Lib.hid (fun W hE => cLiteral s hs W hE)
  have hX := Lib.hid (slot5 w ⟨0, 0, 0, 0, 0⟩ 34)
  have hK := Lib.hid (keep_box w hE #[.int .i64 0, .int .i64 0, .int .i64 0, .int .i64 0, .int .i64 0] 34)
  generalize hNN : w.heap.size = NN at *
  cases hnm : nameB s with
  | true =>
    rw [hnm] at HNM
    have h1' := Lib.hid h1
    clear hp h1 h2 h3 h4 hE HPL HLT
    have HV : Hid (operI x.places s = (match look x.places s with | some i => (i, 0) | none => (⟨0, 0, 0, 0, 0⟩, 5))) := by
      unfold operI; rw [if_pos hnm]; exact Lib.hid rfl
    generalize operI x.places s = V at *
    go_enter Tryz.func97, Tryz.ntmps97
    go_wp2_with fail
    refine (HNM.out _).mono ?_
    rintro e w1 ⟨rfl, hb1⟩
    have hX1 := Lib.hid (hX.out.next hb1)
    have hK1 := Lib.hid (hK.out.next hb1)
    have hbel := Lib.hid hK1.out.1.1
    have d0 : w1.cell? ⟨p, 0, none⟩ = some (.map (some rp)) := (hbel.out.cell (p := ⟨p, 0, none⟩) hpl).trans c0
    have h1w := map_of h1'.out (hbel.out.block rp (by rw [← hNN]; exact map_lt h1'.out))
    have hlk := run_look h1w s (mty := 51) Tryz.underlying51 Tryz.underlying9 (zero_ins w1)
    rw [look_places] at hlk
    clear h1w hbel hX hK c0 c1 c2 c3 hb1
    cases hl : look x.places s with
    | none =>
      rw [hl] at hlk HV
      dsimp only [Option.map_none, Option.getD_none, Option.isSome_none] at hlk
      have hV := Lib.hid (show V = (⟨0, 0, 0, 0, 0⟩, 5) from HV.out)
      clear HV hl
      unfold insV at hlk
      have hal := (Below.refl w1.heap.size w1).alloc (Nat.le_refl _) (.cells #[.int .i64 0, .int .i64 0, .int .i64 0, .int .i64 0, .int .i64 0] 34)
      have hX2 := Lib.hid (hX1.out.next hal)
      have hK2 := Lib.hid (hK1.out.next hal)
      clear hal hX1 hK1
      obtain ⟨⟨e0, e1, e2, e3, e4⟩, hf⟩ := hX2.out
      dsimp only at e0 e1 e2 e3 e4
      go_wp2
      refine bodyPost_ret (v := .tuple #[insV V.1, .int .i64 V.2]) ?_ rfl ⟨rfl, ?_⟩
      · rw [hV.out]
        exact res_2 Tryz.results97 _ rfl rfl (put5_at hX2.out.1 ⟨0, 0, 0, 0, 0⟩)
      · rw [hNN]
        exact below_put5 (Nat.le_refl _) ⟨0, 0, 0, 0, 0⟩ hK2.out.1.1
    | some i =>
      rw [hl] at hlk HV
      dsimp only [Option.map_some, Option.getD_some, Option.isSome_some] at hlk
      have hV := Lib.hid (show V = (i, 0) from HV.out)
      clear HV hl
      unfold insV at hlk
      have hal := (Below.refl w1.heap.size w1).alloc (Nat.le_refl _) (.cells #[.int .i64 i.op, .int .i64 i.kd, .int .i64 i.ar, .int .i64 i.pl, .int .i64 i.n] 34)
      have hX2 := Lib.hid (hX1.out.next hal)
      have hK2 := Lib.hid (hK1.out.next hal)
      clear hal hX1 hK1
      obtain ⟨⟨e0, e1, e2, e3, e4⟩, hf⟩ := hX2.out
      dsimp only at e0 e1 e2 e3 e4
      go_wp2
      refine bodyPost_ret (v := .tuple #[insV V.1, .int .i64 V.2]) ?_ rfl ⟨rfl, ?_⟩
      · rw [hV.out]
        exact res_2 Tryz.results97 _ rfl rfl (put5_at hX2.out.1 i)
      · rw [hNN]
        exact below_put5 (Nat.le_refl _) i hK2.out.1.1
  | false =>
    rw [hnm] at HNM
    clear hp h1 h2 h3 h4 hE c0 c1 c2 c3
    have HV : Hid (operI x.places s = (match placeC s with | some i => (i, 0) | none => (match litB s with | some i => (i, 0) | none => (⟨0, 0, 0, 0, 0⟩, 0)))) := by
      unfold operI; rw [if_neg (by rw [hnm]; decide)]; exact Lib.hid rfl
    generalize operI x.places s = V at *
    unfold plcV at HPL
    unfold litV at HLT
    cases hpc : placeC s with
    | some i =>
      rw [hpc] at HPL HV
      have hV := Lib.hid (show V = (i, 0) from HV.out)
      clear HV hpc HLT
      dsimp only at HPL
      unfold insV at HPL
      go_enter Tryz.func97, Tryz.ntmps97
      go_wp2_with fail
      refine (HNM.out _).mono ?_
      rintro e w1 ⟨rfl, hb1⟩
      have hX1 := Lib.hid (hX.out.next hb1)
      have hK1 := Lib.hid (hK.out.next hb1)
      clear hX hK hb1
      go_wp2_with fail
      refine (HPL.out _ (Keep.env hK1.out)).mono ?_
      rintro e w2 ⟨rfl, hb2⟩
      have hX2 := Lib.hid (hX1.out.next hb2)
      have hK2 := Lib.hid (hK1.out.next hb2)
      clear hX1 hK1 hb2
      have hal := (Below.refl w2.heap.size w2).alloc (Nat.le_refl _) (.cells #[.int .i64 i.op, .int .i64 i.kd, .int .i64 i.ar, .int .i64 i.pl, .int .i64 i.n] 34)
      have hX3 := Lib.hid (hX2.out.next hal)
      have hK3 := Lib.hid (hK2.out.next hal)
      clear hal hX2 hK2
      obtain ⟨⟨e0, e1, e2, e3, e4⟩, hf⟩ := hX3.out
      dsimp only at e0 e1 e2 e3 e4
      go_wp2
      refine bodyPost_ret (v := .tuple #[insV V.1, .int .i64 V.2]) ?_ rfl ⟨rfl, ?_⟩
      · rw [hV.out]
        exact res_2 Tryz.results97 _ rfl rfl (put5_at hX3.out.1 i)
      · rw [hNN]
        exact below_put5 (Nat.le_refl _) i hK3.out.1.1
    | none =>
      rw [hpc] at HPL HV
      dsimp only at HPL
      unfold insV at HPL
      cases hlt : litB s with
      | some i =>
        rw [hlt] at HLT HV
        have hV := Lib.hid (show V = (i, 0) from HV.out)
        clear HV hpc hlt
        dsimp only at HLT
        unfold insV at HLT
        go_enter Tryz.func97, Tryz.ntmps97
        go_wp2_with fail
        refine (HNM.out _).mono ?_
        rintro e w1 ⟨rfl, hb1⟩
        have hX1 := Lib.hid (hX.out.next hb1)
        have hK1 := Lib.hid (hK.out.next hb1)
        clear hX hK hb1
        go_wp2_with fail
        refine (HPL.out _ (Keep.env hK1.out)).mono ?_
        rintro e w2 ⟨rfl, hb2⟩
        have hX2 := Lib.hid (hX1.out.next hb2)
        have hK2 := Lib.hid (hK1.out.next hb2)
        clear hX1 hK1 hb2
        have hal := (Below.refl w2.heap.size w2).alloc (Nat.le_refl _) (.cells #[.int .i64 0, .int .i64 0, .int .i64 0, .int .i64 0, .int .i64 0] 34)
        have hX3 := Lib.hid (hX2.out.next hal)
        have hK3 := Lib.hid (hK2.out.next hal)
        clear hal hX2 hK2
        go_wp2_with fail
        refine (HLT.out _ (Keep.env hK3.out)).mono ?_
        rintro e w4 ⟨rfl, hb4⟩
        have hX4 := Lib.hid (hX3.out.next hb4)
        have hK4 := Lib.hid (hK3.out.next hb4)
        clear hX3 hK3 hb4
        obtain ⟨⟨e0, e1, e2, e3, e4⟩, hf⟩ := hX4.out
        dsimp only at e0 e1 e2 e3 e4
        go_wp2
        refine bodyPost_ret (v := .tuple #[insV V.1, .int .i64 V.2]) ?_ rfl ⟨rfl, ?_⟩
        · rw [hV.out]
          exact res_2 Tryz.results97 _ rfl rfl (put5_at hX4.out.1 i)
        · rw [hNN]
          exact below_put5 (Nat.le_refl _) i hK4.out.1.1
      | none =>
        rw [hlt] at HLT HV
        have hV := Lib.hid (show V = (⟨0, 0, 0, 0, 0⟩, 0) from HV.out)
        clear HV hpc hlt
        dsimp only at HLT
        unfold insV at HLT
        go_enter Tryz.func97, Tryz.ntmps97
        go_wp2_with fail
        refine (HNM.out _).mono ?_
        rintro e w1 ⟨rfl, hb1⟩
        have hX1 := Lib.hid (hX.out.next hb1)
        have hK1 := Lib.hid (hK.out.next hb1)
        clear hX hK hb1
        go_wp2_with fail
        refine (HPL.out _ (Keep.env hK1.out)).mono ?_
        rintro e w2 ⟨rfl, hb2⟩
        have hX2 := Lib.hid (hX1.out.next hb2)
        have hK2 := Lib.hid (hK1.out.next hb2)
        clear hX1 hK1 hb2
        have hal := (Below.refl w2.heap.size w2).alloc (Nat.le_refl _) (.cells #[.int .i64 0, .int .i64 0, .int .i64 0, .int .i64 0, .int .i64 0] 34)
        have hX3 := Lib.hid (hX2.out.next hal)
        have hK3 := Lib.hid (hK2.out.next hal)
        clear hal hX2 hK2
        go_wp2_with fail
        refine (HLT.out _ (Keep.env hK3.out)).mono ?_
        rintro e w4 ⟨rfl, hb4⟩
        have hX4 := Lib.hid (hX3.out.next hb4)
        have hK4 := Lib.hid (hK3.out.next hb4)
        clear hX3 hK3 hb4
        obtain ⟨⟨e0, e1, e2, e3, e4⟩, hf⟩ := hX4.out
        dsimp only at e0 e1 e2 e3 e4
        go_wp2
        refine bodyPost_ret (v := .tuple #[insV V.1, .int .i64 V.2]) ?_ rfl ⟨rfl, ?_⟩
        · rw [hV.out]
          exact res_2 Tryz.results97 _ rfl rfl (put5_at hX4.out.1 ⟨0, 0, 0, 0, 0⟩)
        · rw [hNN]
          exact below_put5 (Nat.le_refl _) ⟨0, 0, 0, 0, 0⟩ hK4.out.1.1

end Go.Proofs.YtpnjhodpbjhmcaaGreatDoor.Il

namespace Go.Proofs.YtpnjhodpbjhmcaaGreatDoor.Il
open Go.Proofs.YtpnjhodpbjhmcaaGreatDoor.Ic

/-! ### What the code reads -/
def aloneI (s : Bs) : In := if s = [41] then ⟨33, 0, 0, 0, 0⟩ else if s.getLast? = some 40 then ⟨32, 0, 0, (opOf s.dropLast : Nat), 0⟩ else if formI (opOf s : Nat) = 1 then ⟨(opOf s : Nat), 0, 0, 0, 0⟩ else ⟨0, 0, 0, 0, 0⟩
def asksI (places : List (Bs × In)) (op : Int) (s : Bs) : In × Int :=
  if formI op = 2 ∨ formI op = 3 then (⟨op, (operI places s).1.kd, (operI places s).1.ar, (operI places s).1.pl, (operI places s).1.n⟩, (operI places s).2)
  else if formI op = 4 then (if nameB s = true then ⟨op, 0, 0, 0, 0⟩ else ⟨0, 0, 0, 0, 0⟩, 0)
  else if formI op = 5 then (⟨op, kindOf s, 0, 0, 0⟩, 0)
  else if formI op = 7 then (match cntB s with | some x => ⟨op, 0, x.1.1, x.1.2, (x.2 : Int)⟩ | none => ⟨op, 0, 0, 0, 0⟩, 0)
  else if formI op = 8 then (match spotB s with | some q => ⟨op, 0, q.1, q.2, 0⟩ | none => ⟨op, 0, 0, 0, 0⟩, 0)
  else (⟨0, 0, 0, 0, 0⟩, 0)
def readI (places : List (Bs × In)) (ws : List Bs) : In × Int :=
  match ws with
  | [a] => (aloneI a, 0)
  | [a, b] => asksI places (opOf a : Nat) b
  | _ => (⟨0, 0, 0, 0, 0⟩, 0)

theorem op_vals (s : Bs) : opOf s = 0 ∨ (1 ≤ opOf s ∧ opOf s ≤ 36 ∧ opOf s ≠ 32 ∧ opOf s ≠ 33 ∧ s.all capB = true ∧ s ≠ []) := by
  by_cases hs : s = []
  · left; unfold opOf; rw [if_pos hs]
  · cases hf : (List.range 37).find? fun k => decide (namesL.getD k [] = s) with
    | none => left; unfold opOf; rw [if_neg hs, hf]; rfl
    | some k =>
      have he : opOf s = k := by unfold opOf; rw [if_neg hs, hf]; rfl
      have h1 : namesL.getD k [] = s := of_decide_eq_true (List.find?_some (p := fun k => decide (namesL.getD k [] = s)) hf)
      have h2 := List.mem_range.1 (List.mem_of_find?_eq_some hf)
      right
      rw [he]
      have hne : namesL.getD k [] ≠ [] := by rw [h1]; exact hs
      refine ⟨Nat.pos_of_ne_zero fun e => hne (by rw [e]; rfl), by omega, fun e => hne (by rw [e]; rfl), fun e => hne (by rw [e]; rfl), ?_, hs⟩
      rcases op_fin ⟨k, h2⟩ with h | h
      · exact absurd h hne
      · rw [← h1]; exact h.2
theorem zero_wrong : rightI ⟨0, 0, 0, 0, 0⟩ = false := by decide
theorem form_2 {op : Int} : formI op = 2 ↔ readsB op = true := by
  unfold formI
  constructor
  · intro h; cases hr : readsB op with
    | true => rfl
    | false => rw [hr] at h; simp only [Bool.false_eq_true, if_false] at h; repeat' split at h <;> (try omega)
  · intro h; rw [if_pos h]
theorem form_3 {op : Int} : formI op = 3 ↔ writesB op = true := by
  unfold formI
  constructor
  · intro h; cases hr : writesB op with
    | true => rfl
    | false => rw [hr] at h; simp only [Bool.false_eq_true, if_false] at h; repeat' split at h <;> (try omega)
  · intro h
    have := (op_facts op)
    have hr : readsB op = false := by
      cases hr : readsB op with
      | false => rfl
      | true => rw [(read_write hr).1] at h; cases h
    rw [if_neg (by rw [hr]; decide), if_pos h]
theorem form_4 {op : Int} : formI op = 4 ↔ jumpB op = true := by
  constructor
  · intro h; unfold formI at h; cases hr : jumpB op with
    | true => rfl
    | false => rw [hr] at h; simp only [Bool.false_eq_true, if_false] at h; repeat' split at h <;> (try omega)
  · intro h
    unfold jumpB at h
    have h := of_decide_eq_true h
    obtain rfl | rfl | rfl : op = 25 ∨ op = 26 ∨ op = 27 := by omega
    all_goals decide
theorem form_1 {op : Int} (h : formI op = 1) : bareB op = true ∨ op = 33 := by
  unfold formI at h
  by_cases hb : (bareB op || decide (op = 33)) = true
  · simpa using hb
  · rw [if_neg hb] at h; repeat' split at h <;> (try omega)
theorem bare_form {op : Int} (h : bareB op = true) : formI op = 1 := by
  unfold bareB at h
  have h := of_decide_eq_true h
  obtain rfl | rfl | rfl | rfl : op = 13 ∨ op = 28 ∨ op = 29 ∨ op = 30 := by omega
  all_goals decide
theorem form_5 {op : Int} (h : formI op = 5) : op = 31 := by
  unfold formI at h
  by_cases hb : op = 31
  · exact hb
  · rw [if_neg hb] at h; repeat' split at h <;> (try omega)
theorem form_6 {op : Int} (h : formI op = 6) : op = 32 := by
  unfold formI at h
  by_cases hb : op = 32
  · exact hb
  · rw [if_neg hb] at h; repeat' split at h <;> (try omega)
theorem form_7 {op : Int} (h : formI op = 7) : op = 34 ∨ op = 35 := by
  unfold formI at h
  by_cases hb : op = 34 ∨ op = 35
  · exact hb
  · rw [if_neg hb] at h; repeat' split at h <;> (try omega)
theorem form_8 {op : Int} (h : formI op = 8) : op = 36 := by
  unfold formI at h
  by_cases hb : op = 36
  · exact hb
  · rw [if_neg hb] at h; repeat' split at h <;> (try omega)
theorem form_0 {op : Int} (h : formI op = 0) (h1 : 1 ≤ op) (h2 : op ≤ 36) : False := by
  obtain ⟨k, hk⟩ : ∃ k : Fin 36, op = (k.val + 1 : Nat) := ⟨⟨op.toNat - 1, by omega⟩, by simp; omega⟩
  subst hk
  revert h
  revert k
  decide

/-! ### Words of one kind are none of another -/
theorem name_chars {s : Bs} (h : nameB s = true) : s ≠ [] ∧ (∀ c ∈ s, charB c = true) ∧ ∃ c t, s = c :: t ∧ letterB c = true := by
  cases s with
  | nil => cases h
  | cons c t =>
    unfold nameB at h
    simp only [Bool.and_eq_true, List.all_eq_true] at h
    refine ⟨by simp, fun x hx => ?_, c, t, rfl, h.1.1⟩
    rcases List.mem_cons.1 hx with rfl | hx
    · unfold charB; rw [h.1.1]; rfl
    · exact h.1.2 x hx
theorem spot_head {s : Bs} {q : Int × Int} (h : spotB s = some q) : ∃ t, s = 37 :: t := by
  cases s with
  | nil => cases h
  | cons c t =>
    cases t with
    | nil => cases h
    | cons a t =>
      unfold spotB at h
      by_cases hc : c = 37
      · exact ⟨_, by rw [hc]⟩
      · dsimp only at h; rw [if_neg hc] at h; cases h
theorem split_first (c : UInt8) (s : Bs) : ∃ t, s = (splitB c s).headD [] ++ t := by
  induction s with
  | nil => exact ⟨[], rfl⟩
  | cons x s ih =>
    unfold splitB
    by_cases hx : x = c
    · rw [if_pos hx]; exact ⟨x :: s, rfl⟩
    · rw [if_neg hx]
      obtain ⟨t, ht⟩ := ih
      cases hs : splitB c s with
      | nil => exact absurd hs (split_ne c s)
      | cons a b =>
        rw [hs] at ht
        exact ⟨t, by simp only [List.headD_cons] at ht ⊢; rw [List.cons_append, ← ht]⟩
theorem place_head {s : Bs} {i : In} (h : placeB s = some i) : ∃ t, s = 37 :: t := by
  unfold placeB at h
  split at h
  · next p k hs =>
    cases hq : spotB p with
    | none => rw [hq] at h; cases h
    | some q =>
      obtain ⟨t, rfl⟩ := spot_head hq
      obtain ⟨u, hu⟩ := split_first 58 s
      rw [hs] at hu
      exact ⟨t ++ u, hu⟩
  · cases h
theorem place_op {s : Bs} {i : In} (h : placeB s = some i) : i.op = 0 ∧ i.n = 0 ∧ szI i.kd ≠ 0 ∧ 1 ≤ i.ar ∧ i.ar ≤ 4 := by
  unfold placeB at h
  split at h
  · next p k hs =>
    cases hq : spotB p with
    | none => rw [hq] at h; cases h
    | some q =>
      rw [hq] at h
      by_cases hk : kindOf k = 0
      · simp [hk] at h
      · simp [hk] at h
        subst h
        have := spot_ar hq
        refine ⟨rfl, rfl, ?_, this.1, this.2⟩
        have hr := named_range ⟨k.toArray⟩
        have : kindOf k = namedI ⟨k.toArray⟩ := rfl
        exact fun e => hk (by
          rcases (by omega : kindOf k = 0 ∨ kindOf k = 1 ∨ kindOf k = 2 ∨ kindOf k = 3 ∨ kindOf k = 4 ∨ kindOf k = 5 ∨ kindOf k = 6 ∨ kindOf k = 7) with h | h | h | h | h | h | h | h
          · exact h
          all_goals (dsimp only at e; rw [h] at e; exact absurd e (by decide)))
  · cases h
theorem lit_head {s : Bs} {i : In} (h : litB s = some i) : (∃ c t, s = c :: t ∧ 65 ≤ c.toNat ∧ c.toNat ≤ 90) ∧ (35 : UInt8) ∈ s ∧ i.op = 0 ∧ i.ar = 0 ∧ i.pl = 0 := by
  unfold litB at h
  split at h
  · next k t hs =>
    cases hn : signB t with
    | none => rw [hn] at h; cases h
    | some n =>
      rw [hn] at h
      by_cases hk : kindOf k = 0
      · simp [hk] at h
      · simp [hk] at h
        subst h
        have h35 : (35 : UInt8) ∈ s := by
          by_cases h35 : (35 : UInt8) ∈ s
          · exact h35
          · rw [split_free h35] at hs; cases hs
        obtain ⟨u, hu⟩ := split_first 35 s
        rw [hs] at hu
        simp only [List.headD_cons] at hu
        refine ⟨?_, h35, rfl, rfl, rfl⟩
        cases k with
        | nil => exact absurd kind_nil hk
        | cons c k => exact ⟨c, k ++ u, hu, (kind_chars _ hk c (by simp)).1, (kind_chars _ hk c (by simp)).2⟩
  · cases h
theorem name_no_place {s : Bs} (h : nameB s = true) : placeB s = none := by
  cases hp : placeB s with
  | none => rfl
  | some i =>
    obtain ⟨t, rfl⟩ := place_head hp
    obtain ⟨-, -, c, t', he, hc⟩ := name_chars h
    cases he
    exact absurd hc (by decide)
theorem name_no_lit {s : Bs} (h : nameB s = true) : litB s = none := by
  cases hp : litB s with
  | none => rfl
  | some i => exact absurd ((name_chars h).2.1 35 (lit_head hp).2.1) (by decide)
theorem place_no_lit {s : Bs} {i : In} (h : placeB s = some i) : litB s = none := by
  cases hp : litB s with
  | none => rfl
  | some j =>
    obtain ⟨t, rfl⟩ := place_head h
    obtain ⟨⟨c, t', he, h1, h2⟩, -⟩ := lit_head hp
    cases he
    exact absurd h1 (by decide)
theorem opFree {s : Bs} {c : UInt8} (hc : capB c = false) (h : s.getLast? = some c) : opOf s = 0 := by
  rcases op_vals s with h0 | ⟨-, -, -, -, ha, -⟩
  · exact h0
  · exact absurd h (last_cap ha hc)

end Go.Proofs.YtpnjhodpbjhmcaaGreatDoor.Il

namespace Go.Proofs.YtpnjhodpbjhmcaaGreatDoor.Il
open Go.Proofs.YtpnjhodpbjhmcaaGreatDoor.Ic

/-- What is asked for a jump. -/
def labW (i : In) (ws : List Bs) : Bs := if jumpB i.op then ws.getD 1 [] else []
/-- What instrB tells, by what was read. -/
def Reads2 (r : In × Int) (ws : List Bs) (b : Except Nat (In × Bs)) : Prop :=
  (r.2 = 5 ∧ b = .error 5) ∨ (r.2 = 0 ∧ rightI r.1 = true ∧ b = .ok (r.1, labW r.1 ws)) ∨ (r.2 = 0 ∧ rightI r.1 = false ∧ (b = .error 4 ∨ ∃ i l, b = .ok (i, l) ∧ rightI i = false))

theorem reads_zero (ws : List Bs) : Reads2 (⟨0, 0, 0, 0, 0⟩, 0) ws (.error 4) := .inr (.inr ⟨rfl, zero_wrong, .inl rfl⟩)
/-- Of one and the same instruction. -/
theorem reads_same (i : In) (ws : List Bs) (l : Bs) (hl : rightI i = true → l = labW i ws) : Reads2 (i, 0) ws (.ok (i, l)) := by
  cases h : rightI i with
  | true => exact .inr (.inl ⟨rfl, h, by rw [hl h]⟩)
  | false => exact .inr (.inr ⟨rfl, h, .inr ⟨i, l, rfl, h⟩⟩)
theorem alone_reads (places : List (Bs × In)) (a : Bs) : Reads2 (aloneI a, 0) [a] (instrB places [a]) := by
  unfold aloneI instrB
  dsimp only
  by_cases h1 : a = [41]
  · rw [if_pos h1, if_pos h1]
    exact reads_same _ _ _ fun _ => rfl
  · rw [if_neg h1, if_neg h1]
    by_cases h2 : a.getLast? = some 40
    · rw [if_pos h2]
      by_cases h3 : 1 < a.length
      · rw [if_pos ⟨h2, h3⟩]
        exact reads_same _ _ _ fun _ => rfl
      · rw [if_neg (fun h => h3 h.2)]
        have ha : a = [40] := by
          cases a with
          | nil => cases h2
          | cons c t =>
            cases t with
            | nil => simp at h2; rw [h2]
            | cons d t => simp at h3
        subst ha
        rw [if_neg (by decide)]
        exact .inr (.inr ⟨rfl, by decide, .inl rfl⟩)
    · rw [if_neg h2, if_neg (show ¬ (a.getLast? = some 40 ∧ 1 < a.length) from fun h => h2 h.1)]
      by_cases h3 : bareB (opOf a : Nat) = true
      · rw [if_pos h3, if_pos (bare_form h3)]
        exact reads_same _ _ _ fun _ => by
          unfold labW
          dsimp only
          split
          · next hj => have := bare_form h3; rw [form_4.2 hj] at this; cases this
          · rfl
      · rw [if_neg h3, if_neg (show ¬ formI (opOf a : Nat) = 1 from fun h => by
          rcases form_1 h with h | h
          · exact h3 h
          · rcases op_vals a with h0 | ⟨-, -, -, h0, -⟩ <;> omega)]
        exact reads_zero _
theorem oper_reads (places : List (Bs × In)) (op : Int) (s : Bs) (hr : readsB op = true ∨ writesB op = true) (ws : List Bs) :
    Reads2 (⟨op, (operI places s).1.kd, (operI places s).1.ar, (operI places s).1.pl, (operI places s).1.n⟩, (operI places s).2) ws
      (match operandB places s (readsB op) with | .ok i => .ok (⟨op, i.kd, i.ar, i.pl, i.n⟩, []) | .error e => .error e) := by
  have hj : jumpB op = false := by
    cases hj : jumpB op with
    | false => rfl
    | true =>
      have h4 := form_4.2 hj
      rcases hr with hr | hr
      · rw [form_2.2 hr] at h4; cases h4
      · rw [form_3.2 hr] at h4; cases h4
  have hlab : ∀ i : In, i.op = op → labW i ws = [] := fun i hi => by unfold labW; rw [hi, hj]; rfl
  have hz : rightI ⟨op, 0, 0, 0, 0⟩ = false := by
    unfold rightI
    dsimp only
    cases hrd : readsB op with
    | true => rfl
    | false =>
      rcases hr with hr | hr
      · rw [hr] at hrd; cases hrd
      · rw [hr]; rfl
  by_cases hn : nameB s = true
  · rw [show operandB places s (readsB op) = (match look places s with | some i => .ok i | none => .error 5) by
      unfold operandB
      rw [name_no_place hn, name_no_lit hn]
      have : (if readsB op = true then (none : Option In) else none) = none := by split <;> rfl
      rw [this, if_pos hn]
      try (cases look places s <;> rfl)]
    rw [show operI places s = (match look places s with | some i => (i, 0) | none => (⟨0, 0, 0, 0, 0⟩, 5)) by unfold operI; rw [if_pos hn]; try (cases look places s <;> rfl)]
    cases look places s with
    | none => exact .inl ⟨rfl, rfl⟩
    | some i => exact reads_same _ _ _ fun _ => (hlab _ rfl).symm
  · rw [show operI places s = (match placeC s with | some i => (i, 0) | none => (match litB s with | some i => (i, 0) | none => (⟨0, 0, 0, 0, 0⟩, 0))) by unfold operI; rw [if_neg hn]; try (cases placeC s <;> (try cases litB s) <;> rfl)]
    cases hp : placeB s with
    | some i =>
      rw [show operandB places s (readsB op) = .ok i by unfold operandB; rw [hp]]
      cases ht : thereB i.pl i.kd with
      | true =>
        rw [show placeC s = some i by unfold placeC; rw [hp]; show (if thereB i.pl i.kd = true then some i else none) = _; rw [if_pos ht]]
        exact reads_same _ _ _ fun _ => (hlab _ rfl).symm
      | false =>
        rw [show placeC s = none by unfold placeC; rw [hp]; show (if thereB i.pl i.kd = true then some i else none) = _; rw [ht]; rfl, place_no_lit hp]
        refine .inr (.inr ⟨rfl, hz, .inr ⟨_, _, rfl, ?_⟩⟩)
        obtain ⟨-, -, -, h1, -⟩ := place_op hp
        unfold rightI
        dsimp only
        rw [if_neg (by simp; intro _; omega), if_pos (by simpa using hr), ht]
        simp
    | none =>
      rw [show placeC s = none by unfold placeC; rw [hp]; rfl]
      cases hl : litB s with
      | none =>
        rw [show operandB places s (readsB op) = .error 4 by
          unfold operandB
          rw [hp, hl]
          have : (if readsB op = true then (none : Option In) else none) = none := by split <;> rfl
          rw [this, if_neg hn]]
        exact .inr (.inr ⟨rfl, hz, .inl rfl⟩)
      | some i =>
        obtain ⟨-, -, -, h0, h1⟩ := lit_head hl
        cases hrd : readsB op with
        | true =>
          rw [show operandB places s true = .ok i by unfold operandB; rw [hp, hl]; rfl]
          exact reads_same _ _ _ fun _ => (hlab _ rfl).symm
        | false =>
          rw [show operandB places s false = .error 4 by unfold operandB; rw [hp, hl, if_neg (by decide), if_neg hn]]
          refine .inr (.inr ⟨rfl, ?_, .inl rfl⟩)
          have hw : writesB op = true := by
            rcases hr with hr | hr
            · rw [hrd] at hr; cases hr
            · exact hr
          unfold rightI
          dsimp only
          rw [hrd, hw, h0]
          simp
theorem asks_reads (places : List (Bs × In)) (a s : Bs) : Reads2 (asksI places (opOf a : Nat) s) [a, s] (instrB places [a, s]) := by
  have hv := op_vals a
  show Reads2 _ _ (if opOf a = 0 ∨ bareB (opOf a) = true then .error 4 else askB places (opOf a) s)
  by_cases h0 : opOf a = 0 ∨ bareB (opOf a : Nat) = true
  · rw [if_pos h0]
    have hf : formI (opOf a : Nat) = 0 ∨ formI (opOf a : Nat) = 1 := by
      rcases h0 with h0 | h0
      · rw [h0]; left; decide
      · right; exact bare_form h0
    have : asksI places (opOf a : Nat) s = (⟨0, 0, 0, 0, 0⟩, 0) := by
      unfold asksI
      rcases hf with hf | hf <;> rw [hf] <;> rfl
    rw [this]
    exact reads_zero _
  · rw [if_neg h0]
    obtain ⟨h1, h2, h32, h33, -, -⟩ : 1 ≤ opOf a ∧ opOf a ≤ 36 ∧ opOf a ≠ 32 ∧ opOf a ≠ 33 ∧ a.all capB = true ∧ a ≠ [] := hv.resolve_left (fun h => h0 (.inl h))
    have hb : bareB (opOf a : Nat) ≠ true := fun h => h0 (.inr h)
    generalize ho : ((opOf a : Nat) : Int) = op at *
    clear hv h0
    have f0 : formI op ≠ 0 := fun h => form_0 h (by omega) (by omega)
    have f1 : formI op ≠ 1 := fun h => (form_1 h).elim hb (by omega)
    have f6 : formI op ≠ 6 := fun h => by have := form_6 h; omega
    unfold asksI askB
    by_cases hrw : formI op = 2 ∨ formI op = 3
    · have hrw' : readsB op = true ∨ writesB op = true := hrw.elim (fun h => .inl (form_2.1 h)) (fun h => .inr (form_3.1 h))
      rw [if_pos hrw, if_pos (by simpa using hrw')]
      exact oper_reads places op s hrw' _
    · have hrw' : ¬ (readsB op || writesB op) = true := fun h => hrw (by simp at h; exact h.elim (fun h => .inl (form_2.2 h)) (fun h => .inr (form_3.2 h)))
      rw [if_neg hrw, if_neg hrw']
      by_cases hj : formI op = 4
      · rw [if_pos hj, if_pos (form_4.1 hj)]
        by_cases hn : nameB s = true
        · rw [if_pos hn, if_pos hn]
          exact reads_same _ _ _ fun _ => by unfold labW; rw [if_pos (form_4.1 hj)]; rfl
        · rw [if_neg hn, if_neg hn]
          exact reads_zero _
      · have hj' : jumpB op ≠ true := fun h => hj (form_4.2 h)
        have hlab : ∀ i : In, i.op = op → ∀ ws, labW i ws = [] := fun i hi ws => by unfold labW; rw [hi, if_neg hj']
        rw [if_neg hj, if_neg hj']
        by_cases h5 : formI op = 5
        · rw [if_pos h5, if_pos (form_5 h5)]
          exact reads_same _ _ _ fun _ => (hlab _ rfl _).symm
        · have h31 : op ≠ 31 := fun e => h5 (by rw [e]; decide)
          rw [if_neg h5, if_neg h31]
          by_cases h7 : formI op = 7
          · have h36 : op ≠ 36 := by rcases form_7 h7 with h | h <;> omega
            rw [if_pos h7, if_neg h36]
            show Reads2 _ _ (match splitB 44 s with | [p, t] => (match spotB p, numB 4 t with | some q, some n => .ok (⟨op, 0, q.1, q.2, (n : Int)⟩, []) | _, _ => .error 4) | _ => .error 4)
            have hz : rightI ⟨op, 0, 0, 0, 0⟩ = false := by rcases form_7 h7 with h | h <;> (rw [h]; decide)
            have hno : ∀ l : List Bs, splitB 44 s = l → (∀ p t, l ≠ [p, t]) → cntB s = none := fun l hl h => by
              unfold cntB
              rw [hl]
              match l, h with
              | [], _ => rfl
              | [_], _ => rfl
              | [a, b], h => exact absurd rfl (h a b)
              | _ :: _ :: _ :: _, _ => rfl
            have hno2 : cntB s = none → Reads2 ((match cntB s with | some x => (⟨op, 0, x.1.1, x.1.2, (x.2 : Int)⟩ : In) | none => ⟨op, 0, 0, 0, 0⟩), 0) [a, s] (.error 4) := fun h => by
              rw [h]; exact .inr (.inr ⟨rfl, hz, .inl rfl⟩)
            match hs : splitB 44 s with
            | [] => exact hno2 (hno _ hs (by simp))
            | [_] => exact hno2 (hno _ hs (by simp))
            | _ :: _ :: _ :: _ => exact hno2 (hno _ hs (by simp))
            | [p, t] =>
              cases hp : spotB p with
              | none =>
                dsimp only
                rw [hp]
                exact hno2 (by unfold cntB; rw [hs]; dsimp only; rw [hp])
              | some q =>
                cases hn : numB 4 t with
                | none =>
                  dsimp only
                  rw [hp, hn]
                  exact hno2 (by unfold cntB; rw [hs]; dsimp only; rw [hp, hn])
                | some n =>
                  rw [show cntB s = some (q, n) by unfold cntB; rw [hs]; dsimp only; rw [hp, hn]]
                  dsimp only
                  rw [hp, hn]
                  exact reads_same _ _ _ fun _ => (hlab ⟨op, 0, q.1, q.2, (n : Int)⟩ rfl _).symm
          · rw [if_neg h7]
            have h8 : formI op = 8 := by
              rcases form_range op with h | h | h | h | h | h | h | h | h
              · exact absurd h f0
              · exact absurd h f1
              · exact absurd (.inl h) hrw
              · exact absurd (.inr h) hrw
              · exact absurd h hj
              · exact absurd h h5
              · exact absurd h f6
              · exact absurd h h7
              · exact h
            rw [if_pos h8, if_pos (form_8 h8)]
            cases spotB s with
            | none => exact .inr (.inr ⟨rfl, by rw [form_8 h8]; decide, .inl rfl⟩)
            | some q => exact reads_same _ _ _ fun _ => (hlab _ rfl _).symm
theorem read_reads (places : List (Bs × In)) (ws : List Bs) : Reads2 (readI places ws) ws (instrB places ws) := by
  match ws with
  | [] => exact reads_zero _
  | [a] => exact alone_reads places a
  | [a, b] => exact asks_reads places a b
  | a :: b :: c :: r => exact reads_zero _

/-! ### Lines -/
/-- What add answers, and what it leaves. -/
def addE (st : Asm) (ws : List Bs) : Nat :=
  if (readI st.places ws).2 ≠ 0 then 5 else if rightI (readI st.places ws).1 = false then 4 else if 200 ≤ st.code.length then 2 else 0
def addS (st : Asm) (ws : List Bs) (ln : Nat) : Asm :=
  if addE st ws = 0 then ⟨st.code ++ [((readI st.places ws).1, labW (readI st.places ws).1 ws, ln)], st.places, st.labels⟩ else st
def exc (e : Nat) (st : Asm) : Except Nat Asm := if e = 0 then .ok st else .error e
theorem add_is (st : Asm) (ws : List Bs) (ln : Nat) : addB st ws ln = exc (addE st ws) (addS st ws ln) := by
  unfold addB
  rcases read_reads st.places ws with ⟨h1, h2⟩ | ⟨h1, h2, h3⟩ | ⟨h1, h2, h3⟩
  · have : addE st ws = 5 := by unfold addE; rw [h1, if_pos (by decide)]
    rw [h2, this]; rfl
  · rw [h3]
    show (if rightI (readI st.places ws).1 = false then (.error 4 : Except Nat Asm) else if 200 ≤ st.code.length then .error 2 else .ok ⟨st.code ++ [((readI st.places ws).1, labW (readI st.places ws).1 ws, ln)], st.places, st.labels⟩) = _
    rw [h2, if_neg (by decide)]
    by_cases hl : 200 ≤ st.code.length
    · have : addE st ws = 2 := by unfold addE; rw [h1, if_neg (by decide), h2, if_neg (by decide), if_pos hl]
      rw [if_pos hl, this]; rfl
    · have : addE st ws = 0 := by unfold addE; rw [h1, if_neg (by decide), h2, if_neg (by decide), if_neg hl]
      rw [if_neg hl]
      unfold addS
      rw [if_pos this, this]
      rfl
  · have : addE st ws = 4 := by unfold addE; rw [h1, if_neg (by decide), h2, if_pos rfl]
    rw [this]
    rcases h3 with h3 | ⟨i, l, h3, hi⟩
    · rw [h3]; rfl
    · rw [h3]
      show (if rightI i = false then (.error 4 : Except Nat Asm) else _) = _
      rw [if_pos hi]
      rfl
/-- declare. -/
def declE (st : Asm) (ws : List Bs) : Nat :=
  match ws with
  | [_, nm, t, p] => if nameB nm = true ∧ t = [65, 84] then (match placeC p with | some _ => (if (look st.places nm).isSome then 5 else 0) | none => 4) else 4
  | _ => 4
def declS (st : Asm) (ws : List Bs) : Asm :=
  match ws with
  | [_, nm, _, p] => if declE st ws = 0 then (match placeC p with | some i => ⟨st.code, st.places ++ [(nm, i)], st.labels⟩ | none => st) else st
  | _ => st
theorem decl_is (st : Asm) (rest : List Bs) (a : Bs) : (match rest with
      | [nm, t, p] =>
        if nameB nm = true ∧ t = [65, 84] then
          (match placeB p with
          | some i => if thereB i.pl i.kd = true then (match look st.places nm with | some _ => .error 5 | none => .ok ⟨st.code, st.places ++ [(nm, i)], st.labels⟩) else .error 4
          | none => .error 4)
        else .error 4
      | _ => (.error 4 : Except Nat Asm)) = exc (declE st (a :: rest)) (declS st (a :: rest)) := by
  match rest with
  | [] => rfl
  | [_] => rfl
  | [_, _] => rfl
  | _ :: _ :: _ :: _ :: _ => rfl
  | [nm, t, p] =>
    dsimp only
    have h4 : ∀ e : Nat, e ≠ 0 → declE st [a, nm, t, p] = e → exc (declE st [a, nm, t, p]) (declS st [a, nm, t, p]) = .error e := fun e he h => by
      rw [h]; unfold exc; rw [if_neg he]
    by_cases h : nameB nm = true ∧ t = [65, 84]
    · rw [if_pos h]
      cases hp : placeB p with
      | none =>
        refine (h4 4 (by decide) ?_).symm
        unfold declE
        dsimp only
        rw [if_pos h, show placeC p = none by unfold placeC; rw [hp]; rfl]
      | some i =>
        dsimp only
        by_cases ht : thereB i.pl i.kd = true
        · have hc : placeC p = some i := by unfold placeC; rw [hp]; show (if thereB i.pl i.kd = true then some i else none) = _; rw [if_pos ht]
          rw [if_pos ht]
          cases hl : look st.places nm with
          | some j =>
            refine (h4 5 (by decide) ?_).symm
            unfold declE
            dsimp only
            rw [if_pos h, hc, hl]
            rfl
          | none =>
            have h0 : declE st [a, nm, t, p] = 0 := by
              unfold declE
              dsimp only
              rw [if_pos h, hc, hl]
              rfl
            unfold declS
            dsimp only
            rw [h0, if_pos rfl, hc]
            rfl
        · rw [if_neg ht]
          refine (h4 4 (by decide) ?_).symm
          unfold declE
          dsimp only
          rw [if_pos h, show placeC p = none by unfold placeC; rw [hp]; show (if thereB i.pl i.kd = true then some i else none) = _; rw [if_neg ht]]
    · rw [if_neg h]
      refine (h4 4 (by decide) ?_).symm
      unfold declE
      dsimp only
      rw [if_neg h]
/-- mark. -/
def markS (st : Asm) (nm : Bs) : Asm := ⟨st.code, st.places, st.labels ++ [(nm, st.code.length)]⟩
/-- What tell answers, and what it leaves if that is 0. -/
def tellE (st : Asm) (ws : List Bs) : Nat :=
  match ws with
  | [] => 0
  | a :: rest => if a = [86, 65, 82] then declE st ws
    else if (cutSuf a 58).2 = true ∧ nameB (cutSuf a 58).1 = true then
      (if (look st.labels (cutSuf a 58).1).isSome then 5 else if rest = [] then 0 else addE (markS st (cutSuf a 58).1) rest)
    else addE st ws
def tellS (st : Asm) (ws : List Bs) (ln : Nat) : Asm :=
  match ws with
  | [] => st
  | a :: rest => if a = [86, 65, 82] then declS st ws
    else if (cutSuf a 58).2 = true ∧ nameB (cutSuf a 58).1 = true then
      (if rest = [] then markS st (cutSuf a 58).1 else addS (markS st (cutSuf a 58).1) rest ln)
    else addS st ws ln
theorem read_colon (places : List (Bs × In)) (a : Bs) (rest : List Bs) (h : a.getLast? = some 58) : readI places (a :: rest) = (⟨0, 0, 0, 0, 0⟩, 0) := by
  have ho := opFree (by decide) h
  match rest with
  | [] =>
    show (aloneI a, (0 : Int)) = _
    unfold aloneI
    rw [if_neg (fun e => by rw [e] at h; revert h; decide), if_neg (by rw [h]; decide), ho, if_neg (by decide)]
  | [b] =>
    show asksI places (opOf a : Nat) b = _
    rw [ho]
    rfl
  | _ :: _ :: _ => rfl
theorem line_is (st : Asm) (ws : List Bs) (ln : Nat) : lineB st ws ln = exc (tellE st ws) (tellS st ws ln) := by
  cases ws with
  | nil => rfl
  | cons a rest =>
    unfold lineB tellE tellS
    dsimp only
    by_cases hv : a = [86, 65, 82]
    · rw [if_pos hv, if_pos hv, if_pos hv]
      exact decl_is st rest a
    · rw [if_neg hv, if_neg hv, if_neg hv]
      by_cases hl : a.getLast? = some 58
      · have hc : cutSuf a 58 = (a.dropLast, true) := by unfold cutSuf; rw [if_pos hl]
        rw [if_pos hl, hc]
        dsimp only
        by_cases hn : nameB a.dropLast = true
        · have hh : true = true ∧ nameB a.dropLast = true := ⟨rfl, hn⟩
          rw [if_pos hn, if_pos hh, if_pos hh]
          cases hk : look st.labels a.dropLast with
          | some k => rfl
          | none =>
            dsimp only
            by_cases hr : rest = []
            · rw [if_pos hr, if_pos hr, if_pos hr]; rfl
            · rw [if_neg hr, if_neg hr, if_neg hr]
              exact add_is _ _ _
        · have hh : ¬ (true = true ∧ nameB a.dropLast = true) := fun h => hn h.2
          rw [if_neg hn, if_neg hh, if_neg hh]
          have : addE st (a :: rest) = 4 := by unfold addE; rw [read_colon st.places a rest hl]; rfl
          rw [this]
          rfl
      · have hc : cutSuf a 58 = (a, false) := by unfold cutSuf; rw [if_neg hl]
        have hh : ¬ (false = true ∧ nameB a = true) := fun h => by cases h.1
        rw [if_neg hl, hc, if_neg hh, if_neg hh]
        exact add_is _ _ _

end Go.Proofs.YtpnjhodpbjhmcaaGreatDoor.Il

namespace Go.Proofs.YtpnjhodpbjhmcaaGreatDoor.Il
open Go.RowKit
open Go.Proofs.YtpnjhodpbjhmcaaGreatDoor.Ic

theorem s_not {a b : Bs} (h : a ≠ b) : ((S a).toList == b) = false := by rw [toL]; exact beq_eq_false_iff_ne.2 h
set_option maxRecDepth 100000 in
set_option maxHeartbeats 400000 in
theorem cAlone (s : Bs) (hs : s.length ≤ 100000) (w : World) (hE : Env w) : Calls Tryz.prog 82 #[.string (S s)] w (Tells (insV (aloneI s)) w) := by
  have HC : Hid (∀ W, Calls Tryz.prog 47 #[.string (S s), .string ⟨#[40]⟩] W (Tells (.tuple #[.string (S (cutSuf s 40).1), .bool (cutSuf s 40).2]) W)) := fun W => cSuf s 40 hs W
  have HO := Lib.hid (fun W => cOp_any s.dropLast W)
  have HP := Lib.hid (fun W => cOp_any s W)
  have HF := Lib.hid (fun W => cForm_any (opOf s : Nat) W)
  have hX := Lib.hid (slot5 w ⟨0, 0, 0, 0, 0⟩ 34)
  have hK := Lib.hid (keep_box w hE #[.int .i64 0, .int .i64 0, .int .i64 0, .int .i64 0, .int .i64 0] 34)
  have hV : Hid (insV (aloneI s) = insV (if s = [41] then ⟨33, 0, 0, 0, 0⟩ else if s.getLast? = some 40 then ⟨32, 0, 0, (opOf s.dropLast : Nat), 0⟩ else if formI (opOf s : Nat) = 1 then ⟨(opOf s : Nat), 0, 0, 0, 0⟩ else ⟨0, 0, 0, 0, 0⟩)) := rfl
  clear hE hs
  generalize insV (aloneI s) = V at *
  generalize hNN : w.heap.size = NN at *
  by_cases h1 : s = [41]
  · rw [if_pos h1] at hV
    have e1 : (S s).toList = [41] := by rw [toL, h1]
    clear HC HO HP HF h1
    generalize S s = sa at *
    go_enter Tryz.func82, Tryz.ntmps82
    obtain ⟨⟨c0, c1, c2, c3, c4⟩, hf⟩ := hX.out
    dsimp only at c0 c1 c2 c3 c4
    go_wp2
    refine bodyPost_ret (v := V) ?_ rfl ⟨rfl, (Below.refl _ _).alloc (Nat.le_refl _) _⟩
    rw [hV.out]
    exact res_1 Tryz.results82 _ rfl (hNN ▸ (slot5 w ⟨33, 0, 0, 0, 0⟩ 34).1)
  · rw [if_neg h1] at hV
    have e1 := s_not h1
    clear h1
    by_cases h2 : s.getLast? = some 40
    · rw [show cutSuf s 40 = (s.dropLast, true) by unfold cutSuf; rw [if_pos h2]] at HC
      rw [if_pos h2] at hV
      dsimp only at HC
      clear h2 HP HF
      generalize opOf s.dropLast = o at *
      generalize S s.dropLast = d at *
      generalize S s = sa at *
      go_enter Tryz.func82, Tryz.ntmps82
      go_wp2_with fail
      refine (HC.out _).mono ?_
      rintro e w1 ⟨rfl, hb1⟩
      have hX1 := Lib.hid (hX.out.next hb1)
      have hK1 := Lib.hid (hK.out.next hb1)
      clear hb1 hX hK
      go_wp2_with fail
      refine (HO.out _).mono ?_
      rintro e w2 ⟨rfl, hb2⟩
      have hX2 := Lib.hid (hX1.out.next hb2)
      have hK2 := Lib.hid (hK1.out.next hb2)
      clear hb2 hX1 hK1
      obtain ⟨⟨c0, c1, c2, c3, c4⟩, hf⟩ := hX2.out
      dsimp only at c0 c1 c2 c3 c4
      go_wp2
      refine bodyPost_ret (v := V) ?_ rfl ⟨rfl, ?_⟩
      · rw [hV.out]
        exact res_1 Tryz.results82 _ rfl (put5_at hX2.out.1 ⟨32, 0, 0, (o : Nat), 0⟩)
      · rw [hNN]
        exact below_put5 (Nat.le_refl _) ⟨32, 0, 0, (o : Nat), 0⟩ hK2.out.1.1
    · rw [show cutSuf s 40 = (s, false) by unfold cutSuf; rw [if_neg h2]] at HC
      rw [if_neg h2] at hV
      dsimp only at HC
      clear h2 HO
      generalize opOf s = o at *
      generalize S s = sa at *
      by_cases h3 : formI (o : Nat) = 1
      · rw [if_pos h3] at hV
        rw [h3] at HF
        clear h3
        go_enter Tryz.func82, Tryz.ntmps82
        go_wp2_with fail
        refine (HC.out _).mono ?_
        rintro e w1 ⟨rfl, hb1⟩
        have hX1 := Lib.hid (hX.out.next hb1)
        have hK1 := Lib.hid (hK.out.next hb1)
        clear hb1 hX hK
        go_wp2_with fail
        refine (HP.out _).mono ?_
        rintro e w2 ⟨rfl, hb2⟩
        have hX2 := Lib.hid (hX1.out.next hb2)
        have hK2 := Lib.hid (hK1.out.next hb2)
        clear hb2 hX1 hK1
        go_wp2_with fail
        refine (HF.out _).mono ?_
        rintro e w3 ⟨rfl, rfl⟩
        obtain ⟨⟨c0, c1, c2, c3, c4⟩, hf⟩ := hX2.out
        dsimp only at c0 c1 c2 c3 c4
        go_wp2
        refine bodyPost_ret (v := V) ?_ rfl ⟨rfl, ?_⟩
        · rw [hV.out]
          exact res_1 Tryz.results82 _ rfl (put5_at hX2.out.1 ⟨(o : Nat), 0, 0, 0, 0⟩)
        · rw [hNN]
          exact below_put5 (Nat.le_refl _) ⟨(o : Nat), 0, 0, 0, 0⟩ hK2.out.1.1
      · rw [if_neg h3] at hV
        have e3 : (formI (o : Nat) == 1) = false := by simpa using h3
        clear h3
        generalize formI (o : Nat) = z at *
        go_enter Tryz.func82, Tryz.ntmps82
        go_wp2_with fail
        refine (HC.out _).mono ?_
        rintro e w1 ⟨rfl, hb1⟩
        have hX1 := Lib.hid (hX.out.next hb1)
        have hK1 := Lib.hid (hK.out.next hb1)
        clear hb1 hX hK
        go_wp2_with fail
        refine (HP.out _).mono ?_
        rintro e w2 ⟨rfl, hb2⟩
        have hX2 := Lib.hid (hX1.out.next hb2)
        have hK2 := Lib.hid (hK1.out.next hb2)
        clear hb2 hX1 hK1
        go_wp2_with fail
        refine (HF.out _).mono ?_
        rintro e w3 ⟨rfl, rfl⟩
        obtain ⟨⟨c0, c1, c2, c3, c4⟩, hf⟩ := hX2.out
        dsimp only at c0 c1 c2 c3 c4
        go_wp2
        refine bodyPost_ret (v := V) ?_ rfl ⟨rfl, ?_⟩
        · rw [hV.out]
          exact res_1 Tryz.results82 _ rfl (put5_at hX2.out.1 ⟨0, 0, 0, 0, 0⟩)
        · rw [hNN]
          exact below_put5 (Nat.le_refl _) ⟨0, 0, 0, 0, 0⟩ hK2.out.1.1

/-! ### readAsking -/
theorem At5.set {W : World} {b c k : Nat} {v : Value} {i : In} (h : At5 W b i) (hne : b ≠ c) : At5 (W.setCell ⟨c, k, none⟩ v) b i := by
  obtain ⟨h0, h1, h2, h3, h4⟩ := h
  have hk : ∀ {j : Nat} {u : Value}, W.cell? ⟨b, j, none⟩ = some u → (W.setCell ⟨c, k, none⟩ v).cell? ⟨b, j, none⟩ = some u := fun h => (World.cell?_of_block (a := ⟨b, _, none⟩) (set_other hne)).trans h
  exact ⟨hk h0, hk h1, hk h2, hk h3, hk h4⟩
theorem At5.put {W : World} {b c : Nat} {i j : In} (h : At5 W b i) (hne : b ≠ c) : At5 (put5 W c j) b i := ((((h.set hne).set hne).set hne).set hne).set hne
/-- The first box is nothing yet. -/
def Pre (N : Nat) (w W : World) : Prop := At5 W N ⟨0, 0, 0, 0, 0⟩ ∧ Below N w W
theorem Pre.of {N : Nat} {w W : World} (h : At5 W N ⟨0, 0, 0, 0, 0⟩) (hb : Below N w W) : Pre N w W := ⟨h, hb⟩
theorem Pre.set {N : Nat} {w W : World} (h : Pre N w W) (k : Nat) (v : Value) : Pre N w (W.setCell ⟨N + 1, k, none⟩ v) := ⟨h.1.set (by omega), h.2.setCell (p := ⟨N + 1, k, none⟩) (by show N ≤ N + 1; omega) v⟩
theorem Pre.put {N : Nat} {w W : World} (h : Pre N w W) (j : In) : Pre N w (put5 W (N + 1) j) := ⟨h.1.put (by omega), below_put5 (by omega) j h.2⟩
theorem Pre.fin {N : Nat} {w W : World} (h : Pre N w W) (i : In) : At5 (put5 W N i) N i ∧ Below N w (put5 W N i) := ⟨put5_at h.1 i, below_put5 (Nat.le_refl _) i h.2⟩
/-- Two boxes of nothing. -/
def twoZ (w : World) : World := (w.alloc (.cells #[.int .i64 0, .int .i64 0, .int .i64 0, .int .i64 0, .int .i64 0] 34)).alloc (.cells #[.int .i64 0, .int .i64 0, .int .i64 0, .int .i64 0, .int .i64 0] 34)
theorem twoZ_slots (w : World) : Slot5 (twoZ w) w.heap.size ⟨0, 0, 0, 0, 0⟩ ∧ Slot5 (twoZ w) (w.heap.size + 1) ⟨0, 0, 0, 0, 0⟩ ∧ (Env w → Keep w.heap.size w (twoZ w)) := by
  have hs : (w.alloc (.cells #[.int .i64 0, .int .i64 0, .int .i64 0, .int .i64 0, .int .i64 0] 34)).heap.size = w.heap.size + 1 := by simp
  have h1 := (slot5 w ⟨0, 0, 0, 0, 0⟩ 34)
  have hb := (Below.refl (w.alloc (.cells #[.int .i64 0, .int .i64 0, .int .i64 0, .int .i64 0, .int .i64 0] 34)).heap.size (w.alloc (.cells #[.int .i64 0, .int .i64 0, .int .i64 0, .int .i64 0, .int .i64 0] 34))).alloc (Nat.le_refl _) (.cells #[.int .i64 0, .int .i64 0, .int .i64 0, .int .i64 0, .int .i64 0] 34)
  have h2 := slot5 (w.alloc (.cells #[.int .i64 0, .int .i64 0, .int .i64 0, .int .i64 0, .int .i64 0] 34)) ⟨0, 0, 0, 0, 0⟩ 34
  rw [hs] at h2
  exact ⟨h1.next hb, h2, fun hE => (keep_box w hE _ _).next hb⟩

set_option maxRecDepth 100000 in
set_option maxHeartbeats 400000 in
theorem cAsks (p : Nat) (ms : List Nat) (x : Raw) (op : Int) (s : Bs) (hs : s.length ≤ 100000) (w : World) (h : RawAt w p ms x) (hE : Env w) :
    Calls Tryz.prog 83 #[.pointer (some ⟨p, 0, none⟩), .int .i64 op, .string (S s)] w (Tells (.tuple #[insV (asksI x.places op s).1, .int .i64 (asksI x.places op s).2]) w) := by
  have HF := Lib.hid (fun W => cForm_any op W)
  have HO := Lib.hid (fun W (hb : Below w.heap.size w W) (hE : Env W) => cOperand p ms x s hs W (h.below hb) hE)
  have HN := Lib.hid (fun W => cIsName s hs W)
  have HM : Hid (∀ W, Calls Tryz.prog 80 #[.string (S s)] W (Tells (.tuple #[.int .i64 (kindOf s), .bool (decide (kindOf s ≠ 0))]) W)) := fun W => cNamed_any (S s) W
  have HC := Lib.hid (fun W hE => cCount s hs W hE)
  have HS := Lib.hid (fun W => cSpot0 s hs W)
  obtain ⟨x6, x8, kk⟩ := twoZ_slots w
  have hX := Lib.hid x6
  have hY := Lib.hid x8
  have hK := Lib.hid (kk hE)
  clear x6 x8 kk hE hs h
  unfold twoZ at hX hY hK
  unfold asksI
  generalize hNN : w.heap.size = NN at *
  by_cases h23 : formI op = 2 ∨ formI op = 3
  · rw [if_pos h23]
    generalize operI x.places s = r at *
    obtain ⟨⟨a0, a1, a2, a3, a4⟩, r2⟩ := r
    unfold insV at HO
    dsimp only at HO ⊢
    clear HN HM HC HS
    rcases h23 with h2 | h2
    all_goals
      rw [h2] at HF
      clear h2
      go_enter Tryz.func83, Tryz.ntmps83
      go_wp2_with fail
      refine (HF.out _).mono ?_
      rintro e w0 ⟨rfl, rfl⟩
      go_wp2_with fail
      refine (HO.out _ hK.out.1.1 (Keep.env hK.out)).mono ?_
      rintro e w1 ⟨rfl, hb1⟩
      have hX1 := Lib.hid (hX.out.next hb1)
      have hY1 := Lib.hid (hY.out.next hb1)
      have hK1 := Lib.hid (hK.out.next hb1)
      clear hb1 hX hY hK
      have hfin := Lib.hid (Pre.fin (((Pre.of hX1.out.1 hK1.out.1.1).put ⟨a0, a1, a2, a3, a4⟩).set 0 (.int .i64 op)) ⟨op, a1, a2, a3, a4⟩)
      obtain ⟨⟨c0, c1, c2, c3, c4⟩, cf⟩ := hX1.out
      obtain ⟨⟨d0, d1, d2, d3, d4⟩, df⟩ := hY1.out
      dsimp only at c0 c1 c2 c3 c4 d0 d1 d2 d3 d4
      go_wp2
      refine bodyPost_ret (v := .tuple #[insV ⟨op, a1, a2, a3, a4⟩, .int .i64 r2]) ?_ rfl ⟨rfl, ?_⟩
      · exact res_2 Tryz.results83 _ rfl rfl hfin.out.1
      · rw [hNN]
        exact hfin.out.2
  rw [if_neg h23]
  clear HO
  by_cases h4 : formI op = 4
  · rw [if_pos h4]
    rw [h4] at HF
    clear h4 h23 HM HC HS
    cases hn : nameB s with
    | true =>
      rw [hn] at HN
      rw [if_pos rfl]
      clear hn
      go_enter Tryz.func83, Tryz.ntmps83
      go_wp2_with fail
      refine (HF.out _).mono ?_
      rintro e w0 ⟨rfl, rfl⟩
      go_wp2_with fail
      refine (HN.out _).mono ?_
      rintro e w1 ⟨rfl, hb1⟩
      have hX1 := Lib.hid (hX.out.next hb1)
      have hY1 := Lib.hid (hY.out.next hb1)
      have hK1 := Lib.hid (hK.out.next hb1)
      clear hb1 hX hY hK
      have hfin := Lib.hid (Pre.fin ((Pre.of hX1.out.1 hK1.out.1.1).set 0 (.int .i64 op)) ⟨op, 0, 0, 0, 0⟩)
      obtain ⟨⟨c0, c1, c2, c3, c4⟩, cf⟩ := hX1.out
      obtain ⟨⟨d0, d1, d2, d3, d4⟩, df⟩ := hY1.out
      dsimp only at c0 c1 c2 c3 c4 d0 d1 d2 d3 d4
      go_wp2
      refine bodyPost_ret (v := .tuple #[insV ⟨op, 0, 0, 0, 0⟩, .int .i64 0]) ?_ rfl ⟨rfl, ?_⟩
      · exact res_2 Tryz.results83 _ rfl rfl hfin.out.1
      · rw [hNN]
        exact hfin.out.2
    | false =>
      rw [hn] at HN
      rw [if_neg (by decide)]
      clear hn
      go_enter Tryz.func83, Tryz.ntmps83
      go_wp2_with fail
      refine (HF.out _).mono ?_
      rintro e w0 ⟨rfl, rfl⟩
      go_wp2_with fail
      refine (HN.out _).mono ?_
      rintro e w1 ⟨rfl, hb1⟩
      have hX1 := Lib.hid (hX.out.next hb1)
      have hY1 := Lib.hid (hY.out.next hb1)
      have hK1 := Lib.hid (hK.out.next hb1)
      clear hb1 hX hY hK
      have hfin := Lib.hid (Pre.fin ((Pre.of hX1.out.1 hK1.out.1.1)) ⟨0, 0, 0, 0, 0⟩)
      obtain ⟨⟨c0, c1, c2, c3, c4⟩, cf⟩ := hX1.out
      obtain ⟨⟨d0, d1, d2, d3, d4⟩, df⟩ := hY1.out
      dsimp only at c0 c1 c2 c3 c4 d0 d1 d2 d3 d4
      go_wp2
      refine bodyPost_ret (v := .tuple #[insV ⟨0, 0, 0, 0, 0⟩, .int .i64 0]) ?_ rfl ⟨rfl, ?_⟩
      · exact res_2 Tryz.results83 _ rfl rfl hfin.out.1
      · rw [hNN]
        exact hfin.out.2
  rw [if_neg h4]
  clear HN
  by_cases h5 : formI op = 5
  · rw [if_pos h5]
    rw [h5] at HF
    clear h5 h4 h23 HC HS
    generalize kindOf s = kd at *
    go_enter Tryz.func83, Tryz.ntmps83
    go_wp2_with fail
    refine (HF.out _).mono ?_
    rintro e w0 ⟨rfl, rfl⟩
    go_wp2_with fail
    refine (HM.out _).mono ?_
    rintro e w1 ⟨rfl, hb1⟩
    have hX1 := Lib.hid (hX.out.next hb1)
    have hY1 := Lib.hid (hY.out.next hb1)
    have hK1 := Lib.hid (hK.out.next hb1)
    clear hb1 hX hY hK
    have hfin := Lib.hid (Pre.fin (((Pre.of hX1.out.1 hK1.out.1.1).set 1 (.int .i64 kd)).set 0 (.int .i64 op)) ⟨op, kd, 0, 0, 0⟩)
    obtain ⟨⟨c0, c1, c2, c3, c4⟩, cf⟩ := hX1.out
    obtain ⟨⟨d0, d1, d2, d3, d4⟩, df⟩ := hY1.out
    dsimp only at c0 c1 c2 c3 c4 d0 d1 d2 d3 d4
    go_wp2
    refine bodyPost_ret (v := .tuple #[insV ⟨op, kd, 0, 0, 0⟩, .int .i64 0]) ?_ rfl ⟨rfl, ?_⟩
    · exact res_2 Tryz.results83 _ rfl rfl hfin.out.1
    · rw [hNN]
      exact hfin.out.2
  rw [if_neg h5]
  clear HM
  by_cases h7 : formI op = 7
  · rw [if_pos h7]
    rw [h7] at HF
    clear h7 h5 h4 h23 HS
    unfold cntV at HC
    cases hc : cntB s with
    | none =>
      rw [hc] at HC
      unfold insV at HC
      dsimp only at HC ⊢
      clear hc
      go_enter Tryz.func83, Tryz.ntmps83
      go_wp2_with fail
      refine (HF.out _).mono ?_
      rintro e w0 ⟨rfl, rfl⟩
      go_wp2_with fail
      refine (HC.out _ (Keep.env hK.out)).mono ?_
      rintro e w1 ⟨rfl, hb1⟩
      have hX1 := Lib.hid (hX.out.next hb1)
      have hY1 := Lib.hid (hY.out.next hb1)
      have hK1 := Lib.hid (hK.out.next hb1)
      clear hb1 hX hY hK
      have hfin := Lib.hid (Pre.fin (((Pre.of hX1.out.1 hK1.out.1.1).put ⟨0, 0, 0, 0, 0⟩).set 0 (.int .i64 op)) ⟨op, 0, 0, 0, 0⟩)
      obtain ⟨⟨c0, c1, c2, c3, c4⟩, cf⟩ := hX1.out
      obtain ⟨⟨d0, d1, d2, d3, d4⟩, df⟩ := hY1.out
      dsimp only at c0 c1 c2 c3 c4 d0 d1 d2 d3 d4
      go_wp2
      refine bodyPost_ret (v := .tuple #[insV ⟨op, 0, 0, 0, 0⟩, .int .i64 0]) ?_ rfl ⟨rfl, ?_⟩
      · exact res_2 Tryz.results83 _ rfl rfl hfin.out.1
      · rw [hNN]
        exact hfin.out.2
    | some q =>
      rw [hc] at HC
      obtain ⟨⟨q1, q2⟩, q3⟩ := q
      unfold insV at HC
      dsimp only at HC ⊢
      clear hc
      go_enter Tryz.func83, Tryz.ntmps83
      go_wp2_with fail
      refine (HF.out _).mono ?_
      rintro e w0 ⟨rfl, rfl⟩
      go_wp2_with fail
      refine (HC.out _ (Keep.env hK.out)).mono ?_
      rintro e w1 ⟨rfl, hb1⟩
      have hX1 := Lib.hid (hX.out.next hb1)
      have hY1 := Lib.hid (hY.out.next hb1)
      have hK1 := Lib.hid (hK.out.next hb1)
      clear hb1 hX hY hK
      have hfin := Lib.hid (Pre.fin (((Pre.of hX1.out.1 hK1.out.1.1).put ⟨0, 0, q1, q2, (q3 : Int)⟩).set 0 (.int .i64 op)) ⟨op, 0, q1, q2, (q3 : Int)⟩)
      obtain ⟨⟨c0, c1, c2, c3, c4⟩, cf⟩ := hX1.out
      obtain ⟨⟨d0, d1, d2, d3, d4⟩, df⟩ := hY1.out
      dsimp only at c0 c1 c2 c3 c4 d0 d1 d2 d3 d4
      go_wp2
      refine bodyPost_ret (v := .tuple #[insV ⟨op, 0, q1, q2, (q3 : Int)⟩, .int .i64 0]) ?_ rfl ⟨rfl, ?_⟩
      · exact res_2 Tryz.results83 _ rfl rfl hfin.out.1
      · rw [hNN]
        exact hfin.out.2
  rw [if_neg h7]
  clear HC
  by_cases h8 : formI op = 8
  · rw [if_pos h8]
    rw [h8] at HF
    clear h8 h7 h5 h4 h23
    unfold spotV at HS
    cases hc : spotB s with
    | none =>
      rw [hc] at HS
      dsimp only at HS ⊢
      clear hc
      go_enter Tryz.func83, Tryz.ntmps83
      go_wp2_with fail
      refine (HF.out _).mono ?_
      rintro e w0 ⟨rfl, rfl⟩
      go_wp2_with fail
      refine (HS.out _).mono ?_
      rintro e w1 ⟨rfl, hb1⟩
      have hX1 := Lib.hid (hX.out.next hb1)
      have hY1 := Lib.hid (hY.out.next hb1)
      have hK1 := Lib.hid (hK.out.next hb1)
      clear hb1 hX hY hK
      have hfin := Lib.hid (Pre.fin ((((Pre.of hX1.out.1 hK1.out.1.1).set 2 (.int .i64 0)).set 3 (.int .i64 0)).set 0 (.int .i64 op)) ⟨op, 0, 0, 0, 0⟩)
      obtain ⟨⟨c0, c1, c2, c3, c4⟩, cf⟩ := hX1.out
      obtain ⟨⟨d0, d1, d2, d3, d4⟩, df⟩ := hY1.out
      dsimp only at c0 c1 c2 c3 c4 d0 d1 d2 d3 d4
      go_wp2
      refine bodyPost_ret (v := .tuple #[insV ⟨op, 0, 0, 0, 0⟩, .int .i64 0]) ?_ rfl ⟨rfl, ?_⟩
      · exact res_2 Tryz.results83 _ rfl rfl hfin.out.1
      · rw [hNN]
        exact hfin.out.2
    | some q =>
      rw [hc] at HS
      obtain ⟨q1, q2⟩ := q
      dsimp only at HS ⊢
      clear hc
      go_enter Tryz.func83, Tryz.ntmps83
      go_wp2_with fail
      refine (HF.out _).mono ?_
      rintro e w0 ⟨rfl, rfl⟩
      go_wp2_with fail
      refine (HS.out _).mono ?_
      rintro e w1 ⟨rfl, hb1⟩
      have hX1 := Lib.hid (hX.out.next hb1)
      have hY1 := Lib.hid (hY.out.next hb1)
      have hK1 := Lib.hid (hK.out.next hb1)
      clear hb1 hX hY hK
      have hfin := Lib.hid (Pre.fin ((((Pre.of hX1.out.1 hK1.out.1.1).set 2 (.int .i64 q1)).set 3 (.int .i64 q2)).set 0 (.int .i64 op)) ⟨op, 0, q1, q2, 0⟩)
      obtain ⟨⟨c0, c1, c2, c3, c4⟩, cf⟩ := hX1.out
      obtain ⟨⟨d0, d1, d2, d3, d4⟩, df⟩ := hY1.out
      dsimp only at c0 c1 c2 c3 c4 d0 d1 d2 d3 d4
      go_wp2
      refine bodyPost_ret (v := .tuple #[insV ⟨op, 0, q1, q2, 0⟩, .int .i64 0]) ?_ rfl ⟨rfl, ?_⟩
      · exact res_2 Tryz.results83 _ rfl rfl hfin.out.1
      · rw [hNN]
        exact hfin.out.2
  rw [if_neg h8]
  clear HS
  have hz : formI op = 0 ∨ formI op = 1 ∨ formI op = 6 := by
    have := form_range op
    omega
  clear h8 h7 h5 h4 h23
  dsimp only
  rcases hz with hz | hz | hz
  all_goals
    rw [hz] at HF
    clear hz
    go_enter Tryz.func83, Tryz.ntmps83
    go_wp2_with fail
    refine (HF.out _).mono ?_
    rintro e w0 ⟨rfl, rfl⟩
    obtain ⟨⟨c0, c1, c2, c3, c4⟩, cf⟩ := hX.out
    obtain ⟨⟨d0, d1, d2, d3, d4⟩, df⟩ := hY.out
    dsimp only at c0 c1 c2 c3 c4 d0 d1 d2 d3 d4
    go_wp2
    refine bodyPost_ret (v := .tuple #[insV ⟨0, 0, 0, 0, 0⟩, .int .i64 0]) ?_ rfl ⟨rfl, hNN ▸ hK.out.1.1⟩
    exact res_2 Tryz.results83 _ rfl rfl hX.out.1

/-! ### read -/
/-- Words that lie in a row. -/
def RowS (W : World) (g o : Nat) (ws : List Bs) : Prop := ∀ (j : Nat) (x : Bs), ws[j]? = some x → W.cell? ⟨g, o + j, none⟩ = some (.string (S x)) ∧ x.length ≤ 100000
theorem RowS.kept {w w' : World} {g o : Nat} {ws : List Bs} (h : RowS w g o ws) (hb : Below w.heap.size w w') : RowS w' g o ws := fun j x hx => ⟨kept_cell hb (h j x hx).1, (h j x hx).2⟩
theorem RowS.tail {w : World} {g o : Nat} {a : Bs} {ws : List Bs} (h : RowS w g o (a :: ws)) : RowS w g (o + 1) ws := fun j x hx => by
  have := h (j + 1) x (by simpa using hx)
  rw [show o + 1 + j = o + (j + 1) by omega]
  exact this
theorem RowS.head {w : World} {g o : Nat} {a : Bs} {ws : List Bs} (h : RowS w g o (a :: ws)) : w.cell? ⟨g, o, none⟩ = some (.string (S a)) ∧ a.length ≤ 100000 := h 0 a rfl

set_option maxRecDepth 100000 in
set_option maxHeartbeats 400000 in
theorem cRead (p : Nat) (ms : List Nat) (x : Raw) (g o c : Nat) (ws : List Bs) (w : World) (h : RawAt w p ms x) (hw : RowS w g o ws) (hE : Env w) :
    Calls Tryz.prog 67 #[.pointer (some ⟨p, 0, none⟩), .slice (some ⟨g, o, none⟩) ws.length c] w (Tells (.tuple #[insV (readI x.places ws).1, .int .i64 (readI x.places ws).2]) w) := by
  have hX := Lib.hid (slot5 w ⟨0, 0, 0, 0, 0⟩ 34)
  have hK := Lib.hid (keep_box w hE #[.int .i64 0, .int .i64 0, .int .i64 0, .int .i64 0, .int .i64 0] 34)
  match ws, hw with
  | [], _ =>
    show Calls _ _ _ _ (Tells (.tuple #[insV ⟨0, 0, 0, 0, 0⟩, .int .i64 0]) w)
    clear hE h
    simp only [List.length_nil]
    generalize hNN : w.heap.size = NN at *
    go_enter Tryz.func67, Tryz.ntmps67
    obtain ⟨⟨c0, c1, c2, c3, c4⟩, cf⟩ := hX.out
    dsimp only at c0 c1 c2 c3 c4
    go_wp2
    refine bodyPost_ret (v := .tuple #[insV ⟨0, 0, 0, 0, 0⟩, .int .i64 0]) ?_ rfl ⟨rfl, hNN ▸ hK.out.1.1⟩
    exact res_2 Tryz.results67 _ rfl rfl hX.out.1
  | [a], hw =>
    show Calls _ _ _ _ (Tells (.tuple #[insV (aloneI a), .int .i64 0]) w)
    have ha := hw.head.2
    have e0 := (hw.kept (w' := w.alloc (.cells #[.int .i64 0, .int .i64 0, .int .i64 0, .int .i64 0, .int .i64 0] 34)) ((Below.refl _ _).alloc (Nat.le_refl _) _)).head.1
    have HA := Lib.hid (fun W hE => cAlone a ha W hE)
    clear hE h hw ha
    simp only [List.length_cons, List.length_nil, Nat.zero_add]
    generalize aloneI a = r at *
    obtain ⟨a0, a1, a2, a3, a4⟩ := r
    unfold insV at HA
    dsimp only at HA
    generalize hNN : w.heap.size = NN at *
    generalize S a = sa at *
    go_enter Tryz.func67, Tryz.ntmps67
    go_wp2_with fail
    refine (HA.out _ (Keep.env hK.out)).mono ?_
    rintro e w1 ⟨rfl, hb1⟩
    have hX1 := Lib.hid (hX.out.next hb1)
    have hK1 := Lib.hid (hK.out.next hb1)
    clear hb1 hX hK e0
    have hfin := Lib.hid (Pre.fin (Pre.of hX1.out.1 hK1.out.1.1) ⟨a0, a1, a2, a3, a4⟩)
    obtain ⟨⟨c0, c1, c2, c3, c4⟩, cf⟩ := hX1.out
    dsimp only at c0 c1 c2 c3 c4
    go_wp2
    refine bodyPost_ret (v := .tuple #[insV ⟨a0, a1, a2, a3, a4⟩, .int .i64 0]) ?_ rfl ⟨rfl, ?_⟩
    · exact res_2 Tryz.results67 _ rfl rfl hfin.out.1
    · rw [hNN]
      exact hfin.out.2
  | [a, b], hw =>
    show Calls _ _ _ _ (Tells (.tuple #[insV (asksI x.places (opOf a : Nat) b).1, .int .i64 (asksI x.places (opOf a : Nat) b).2]) w)
    have hb := hw.tail.head.2
    have hk := hw.kept (w' := w.alloc (.cells #[.int .i64 0, .int .i64 0, .int .i64 0, .int .i64 0, .int .i64 0] 34)) ((Below.refl _ _).alloc (Nat.le_refl _) _)
    have e0 := hk.head.1
    have e1 := Lib.hid hk.tail.head.1
    have HO := Lib.hid (fun W => cOp_any a W)
    have HA := Lib.hid (fun W (hb' : Below w.heap.size w W) hE => cAsks p ms x (opOf a : Nat) b hb W (h.below hb') hE)
    clear hE h hw hb hk
    simp only [List.length_cons, List.length_nil, Nat.zero_add, Nat.reduceAdd]
    generalize asksI x.places (opOf a : Nat) b = r at *
    obtain ⟨⟨a0, a1, a2, a3, a4⟩, r2⟩ := r
    unfold insV at HA
    dsimp only at HA
    generalize hNN : w.heap.size = NN at *
    generalize S a = sa at *
    generalize S b = sb at *
    generalize opOf a = oa at *
    go_enter Tryz.func67, Tryz.ntmps67
    go_wp2_with fail
    refine (HO.out _).mono ?_
    rintro e w1 ⟨rfl, hb1⟩
    have hX1 := Lib.hid (hX.out.next hb1)
    have hK1 := Lib.hid (hK.out.next hb1)
    have e2 := kept_cell hb1 e1.out
    clear hb1 hX hK e0 e1
    go_wp2_with fail
    refine (HA.out _ hK1.out.1.1 (Keep.env hK1.out)).mono ?_
    rintro e w2 ⟨rfl, hb2⟩
    have hX2 := Lib.hid (hX1.out.next hb2)
    have hK2 := Lib.hid (hK1.out.next hb2)
    clear hb2 hX1 hK1 e2
    have hfin := Lib.hid (Pre.fin (Pre.of hX2.out.1 hK2.out.1.1) ⟨a0, a1, a2, a3, a4⟩)
    obtain ⟨⟨c0, c1, c2, c3, c4⟩, cf⟩ := hX2.out
    dsimp only at c0 c1 c2 c3 c4
    go_wp2
    refine bodyPost_ret (v := .tuple #[insV ⟨a0, a1, a2, a3, a4⟩, .int .i64 r2]) ?_ rfl ⟨rfl, ?_⟩
    · exact res_2 Tryz.results67 _ rfl rfl hfin.out.1
    · rw [hNN]
      exact hfin.out.2
  | a :: b :: d :: r, _ =>
    show Calls _ _ _ _ (Tells (.tuple #[insV ⟨0, 0, 0, 0, 0⟩, .int .i64 0]) w)
    clear hE h
    obtain ⟨n, hn⟩ : ∃ n, n = (a :: b :: d :: r).length := ⟨_, rfl⟩
    rw [← hn]
    have h1 : ((n : Int) == 1) = false := by simp at hn; simp; omega
    have h2 : ((n : Int) == 2) = false := by simp at hn; simp; omega
    clear hn
    generalize hNN : w.heap.size = NN at *
    go_enter Tryz.func67, Tryz.ntmps67
    obtain ⟨⟨c0, c1, c2, c3, c4⟩, cf⟩ := hX.out
    dsimp only at c0 c1 c2 c3 c4
    go_wp2
    refine bodyPost_ret (v := .tuple #[insV ⟨0, 0, 0, 0, 0⟩, .int .i64 0]) ?_ rfl ⟨rfl, hNN ▸ hK.out.1.1⟩
    exact res_2 Tryz.results67 _ rfl rfl hX.out.1

end Go.Proofs.YtpnjhodpbjhmcaaGreatDoor.Il
