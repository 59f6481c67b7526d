/-
  The landed queue, of any type of one cell: what lies in memory, and what a row that was turned leaves. Conditions: none.
-/
import Derived.Test.YtpbiigpnbhgilaaQuPut
import Derived.Deep.AppendLies
import Derived.Lib.SliceRun
import Derived.BigQuiet
namespace Go.Proofs.Ytpbiigpnbhgilaa.Qu
open Go.RowKit

def colC (h : Bool) : Nat := if h then 1 else 2
section
variable {α : Type} {T : TypeId} {enc : α → Value}
/-- The code's object: a block with the places, both rows' heads and the fault, and the rows' own blocks. -/
structure CV (T : TypeId) (enc : α → Value) (w : World) (b : Nat) (x : Qs α) (v : Bool → Value) : Prop where
  c0 : w.cell? ⟨b, 0, none⟩ = some (.int .i64 (x.pl : Nat))
  cl : ∀ h, w.cell? ⟨b, colC h, none⟩ = some (v h)
  c3 : w.cell? ⟨b, 3, none⟩ = some (.bool x.f)
  fz : ∀ j, w.frozen? ⟨b, j, none⟩ = false
  row : ∀ h, w.ownsRow 0 T 1 (v h) (ofC x h).length ((ofC x h).map enc)
  nb : ∀ h, (v h).ownBlock ≠ some b
  apart : (v false).ownBlock = none ∨ (v false).ownBlock ≠ (v true).ownBlock
  ok : x.Ok
def blk (b : Nat) (v : Bool → Value) : List Nat := b :: ((v false).ownBlock.toList ++ (v true).ownBlock.toList)
theorem blk_mem {v : Bool → Value} {b k : Nat} : k ∈ blk b v ↔ k = b ∨ ∃ h, (v h).ownBlock = some k := by
  simp only [blk, List.mem_cons, List.mem_append, Option.mem_toList]
  constructor
  · rintro (h | h | h)
    · exact .inl h
    · exact .inr ⟨false, h⟩
    · exact .inr ⟨true, h⟩
  · rintro (h | ⟨c, h⟩)
    · exact .inl h
    · cases c
      · exact .inr (.inl h)
      · exact .inr (.inr h)
def CAt (T : TypeId) (enc : α → Value) (w : World) (b : Nat) (ms : List Nat) (x : Qs α) : Prop := ∃ v, ms = blk b v ∧ CV T enc w b x v

theorem ownC_of {w w' : World} {v : Value} {n : Nat} {xs : List Value} (h : w.ownsRow 0 T 1 v n xs) (hb : ∀ k, v.ownBlock = some k → w'.heap[k]? = w.heap[k]?) : w'.ownsRow 0 T 1 v n xs := by
  rcases h.2 with ⟨rfl, h0⟩ | ⟨g, cap, cur, rfl, hN, hg, h1, h2, h3, h4⟩
  · exact ⟨h.1, .inl ⟨rfl, h0⟩⟩
  · exact ⟨h.1, .inr ⟨g, cap, cur, rfl, hN, (hb g rfl).trans hg, h1, h2, h3, h4⟩⟩
theorem ownC_form {w : World} {v : Value} {n : Nat} {xs : List Value} (h : w.ownsRow 0 T 1 v n xs) : ∃ A c, v = .slice A n c := by
  rcases h.2 with ⟨rfl, h0⟩ | ⟨g, cap, cur, rfl, _⟩
  · exact ⟨none, 0, by rw [h0]⟩
  · exact ⟨_, _, rfl⟩
theorem ownC_slice {w : World} {v : Value} {n : Nat} {xs : List Value} (h : w.ownsRow 0 T 1 v n xs) (hn : 0 < n) : ∃ g c, v = .slice (some ⟨g, 0, none⟩) n c := by
  rcases h.2 with ⟨rfl, h0⟩ | ⟨g, cap, cur, rfl, _⟩
  · omega
  · exact ⟨g, cap, rfl⟩

theorem CV.of {w w' : World} {b : Nat} {x : Qs α} {v : Bool → Value} (h : CV T enc w b x v) (hb : ∀ k ∈ blk b v, w'.heap[k]? = w.heap[k]?) : CV T enc w' b x v := by
  have hbb := hb b (blk_mem.2 (.inl rfl))
  exact ⟨(World.cell?_of_block (a := ⟨b, 0, none⟩) hbb).trans h.c0, fun c => (World.cell?_of_block (a := ⟨b, colC c, none⟩) hbb).trans (h.cl c), (World.cell?_of_block (a := ⟨b, 3, none⟩) hbb).trans h.c3,
    fun j => (World.frozen?_of_block (a := ⟨b, j, none⟩) hbb).trans (h.fz j), fun c => ownC_of (h.row c) (fun k hk => hb k (blk_mem.2 (.inr ⟨c, hk⟩))), h.nb, h.apart, h.ok⟩
theorem CV.drewN {w : World} {b : Nat} {x : Qs α} {v : Bool → Value} (h : CV T enc w b x v) (n : Nat) : CV T enc (w.drewN n) b x v := h.of (fun _ _ => rfl)
theorem CV.lt {w : World} {b : Nat} {x : Qs α} {v : Bool → Value} (h : CV T enc w b x v) : ∀ k ∈ blk b v, k < w.heap.size := by
  intro k hk
  rcases blk_mem.1 hk with rfl | ⟨c, hk⟩
  · exact World.block_lt_of_cell? w ⟨k, 0, none⟩ h.c0
  · exact (World.ownsRow.lt (h.row c) k hk).2

def cFace (T : TypeId) (enc : α → Value) : Face α where
  At := CAt T enc
  of := by
    rintro w w' b ms x ⟨v, rfl, h⟩ hb
    exact ⟨v, rfl, h.of hb⟩
  lt := by
    rintro w b ms x ⟨v, rfl, h⟩ k hk
    exact h.lt k hk
  ok := by
    rintro w b ms x ⟨v, rfl, h⟩
    exact h.ok

/-- One row was turned, where nothing else that was there did, and its head is stored. -/
theorem CV.turn {w W : World} {b : Nat} {x : Qs α} {v : Bool → Value} (hv : CV T enc w b x v) (h : Bool) (u : Value) (l : List α) (val : Value)
    (hos : W.os = w.os ∧ W.tape = w.tape ∧ W.output = w.output) (hsz : w.heap.size ≤ W.heap.size) (hpre : ∀ k, k < w.heap.size → some k ≠ (v h).ownBlock → W.heap[k]? = w.heap[k]?)
    (hu : W.ownsRow 0 T 1 u l.length (l.map enc)) (hnew : ∀ g, u.ownBlock = some g → (v h).ownBlock = some g ∨ w.heap.size ≤ g) (hok : (setC x h l).Ok) :
    Done (cFace T enc) b (blk b v) val (setC x h l) w (.returned val) (W.setCell ⟨b, colC h, none⟩ u) := by
  have hbl : b < w.heap.size := World.block_lt_of_cell? w ⟨b, 0, none⟩ hv.c0
  have htwo : ∀ k, (v (!h)).ownBlock = some k → some k ≠ (v h).ownBlock := fun k hk e => by
    have ha := hv.apart
    cases h
    · rcases ha with e0 | e0
      · rw [e0] at e; cases e
      · exact e0 (e.symm.trans hk.symm)
    · rcases ha with e0 | e0
      · have e1 : (v (!true)).ownBlock = none := e0
        rw [e1] at hk; cases hk
      · have e1 : (v (!true)).ownBlock = (v false).ownBlock := rfl
        rw [e1] at hk; exact e0 (hk.trans e)
  have hlt : ∀ c k, (v c).ownBlock = some k → k < w.heap.size := fun c k hk => (World.ownsRow.lt (hv.row c) k hk).2
  have hb := hpre b hbl (fun e => hv.nb h e.symm)
  have hub : u.ownBlock ≠ some b := fun e => by
    rcases hnew b e with e2 | e2
    · exact hv.nb h e2
    · omega
  have hun : ∀ k, u.ownBlock = some k → (v (!h)).ownBlock ≠ some k := fun k hk e => by
    rcases hnew k hk with e2 | e2
    · exact htwo k e e2.symm
    · have := hlt _ k e; omega
  have hset : ∀ k, k ≠ b → (W.setCell ⟨b, colC h, none⟩ u).heap[k]? = W.heap[k]? := fun k hk => Below.heap_setCell _ _ _ _ hk
  have g0 := (World.cell?_of_block (a := ⟨b, 0, none⟩) hb).trans hv.c0
  have gl := fun c => (World.cell?_of_block (a := ⟨b, colC c, none⟩) hb).trans (hv.cl c)
  have g3 := (World.cell?_of_block (a := ⟨b, 3, none⟩) hb).trans hv.c3
  have gf := fun j => (World.frozen?_of_block (a := ⟨b, j, none⟩) hb).trans (hv.fz j)
  have hoth : ∀ c, c ≠ h → c = !h := by intro c hc; cases c <;> cases h <;> first | rfl | exact absurd rfl hc
  have ho := ownC_of (hv.row (!h)) (w' := W) (fun k hk => hpre k (hlt _ k hk) (htwo k hk))
  have hV : CV T enc (W.setCell ⟨b, colC h, none⟩ u) b (setC x h l) (fun c => if c = h then u else v c) := by
    refine ⟨?_, fun c => ?_, ?_, fun j => (World.frozen?_setCell _ _ _ _).trans (gf j), fun c => ?_, fun c => ?_, ?_, hok⟩
    · rw [World.cell?_setCell_other _ _ _ _ (off_ne b (by cases h <;> decide)), g0]
      cases h <;> rfl
    · by_cases hc : c = h
      · subst hc
        rw [if_pos rfl]
        exact World.cell?_setCell_same _ _ _ (gl c)
      · rw [if_neg hc, World.cell?_setCell_other _ _ _ _ (off_ne b (by cases h <;> cases c <;> first | decide | exact absurd rfl hc))]
        exact gl c
    · rw [World.cell?_setCell_other _ _ _ _ (off_ne b (by cases h <;> decide)), g3]
      cases h <;> rfl
    · by_cases hc : c = h
      · subst hc
        rw [if_pos rfl, set_of]
        exact ownC_of hu (fun k hk => hset k (fun e => hub (by rw [hk, e])))
      · rw [if_neg hc]
        have := hoth c hc
        subst this
        have e : ofC (setC x h l) (!h) = ofC x (!h) := by cases h <;> rfl
        rw [e]
        exact ownC_of ho (fun k hk => hset k (fun e => hv.nb (!h) (by rw [hk, e])))
    · by_cases hc : c = h
      · rw [if_pos hc]; exact hub
      · rw [if_neg hc]; exact hv.nb c
    · cases h
      · simp only [if_true, Bool.true_eq_false, if_false]
        by_cases e : u.ownBlock = none
        · exact .inl e
        · right
          intro e2
          obtain ⟨k, hk⟩ := Option.ne_none_iff_exists'.1 e
          exact hun k hk (e2.symm.trans hk)
      · simp only [if_true, Bool.false_eq_true, if_false]
        by_cases e : (v false).ownBlock = none
        · exact .inl e
        · right
          intro e2
          obtain ⟨k, hk⟩ := Option.ne_none_iff_exists'.1 e
          exact hun k (e2.symm.trans hk) hk
  have hO : OnlyL (blk b v) w W := ⟨hos.1, hos.2.1, hos.2.2, hsz, fun k hk hm => hpre k hk (fun e => hm (blk_mem.2 (.inr ⟨h, e.symm⟩)))⟩
  refine ⟨rfl, _, ⟨_, rfl, hV⟩, hO.trans (OnlyL.set (ms := blk b v) (blk_mem.2 (.inl rfl)) _ _) (fun j hj => .inl hj), fun j hj => ?_⟩
  rcases blk_mem.1 hj with rfl | ⟨c, hc⟩
  · exact .inl (blk_mem.2 (.inl rfl))
  · by_cases e : c = h
    · rw [if_pos e] at hc
      rcases hnew j hc with e2 | e2
      · exact .inl (blk_mem.2 (.inr ⟨h, e2⟩))
      · exact .inr e2
    · rw [if_neg e] at hc
      exact .inl (blk_mem.2 (.inr ⟨c, hc⟩))

/-- The fault is stored. -/
theorem CV.fault {w : World} {b : Nat} {x : Qs α} {v : Bool → Value} (hv : CV T enc w b x v) (f : Bool) : CV T enc (w.setCell ⟨b, 3, none⟩ (.bool f)) b ⟨x.pl, x.hi, x.lo, f⟩ v := by
  have hset : ∀ k, k ≠ b → (w.setCell ⟨b, 3, none⟩ (.bool f)).heap[k]? = w.heap[k]? := fun k hk => Below.heap_setCell _ _ _ _ hk
  refine ⟨?_, fun c => ?_, World.cell?_setCell_same _ _ _ hv.c3, fun j => (World.frozen?_setCell _ _ _ _).trans (hv.fz j), fun c => ownC_of (hv.row c) (fun k hk => hset k (fun e => hv.nb c (by rw [hk, e]))), hv.nb, hv.apart, ⟨hv.ok.fits, hv.ok.pl⟩⟩
  · rw [World.cell?_setCell_other _ _ _ _ (off_ne b (by decide))]; exact hv.c0
  · rw [World.cell?_setCell_other _ _ _ _ (off_ne b (by cases c <;> decide))]; exact hv.cl c
theorem CV.fault_done {w : World} {b : Nat} {x : Qs α} {v : Bool → Value} (hv : CV T enc w b x v) (f : Bool) (val : Value) : Done (cFace T enc) b (blk b v) val ⟨x.pl, x.hi, x.lo, f⟩ w (.returned val) (w.setCell ⟨b, 3, none⟩ (.bool f)) :=
  ⟨rfl, _, ⟨v, rfl, hv.fault f⟩, OnlyL.set (blk_mem.2 (.inl rfl)) _ _, fun _ hj => .inl hj⟩
theorem CAt.fresh (w : World) (n : Int) (t : TypeId) : CAt T enc (w.alloc (.cells #[.int .i64 ((placesN n : Nat) : Int), .slice none 0 0, .slice none 0 0, .bool false] t)) w.heap.size [w.heap.size] (newX n) := by
  have hc : ∀ j u, #[Value.int .i64 ((placesN n : Nat) : Int), .slice none 0 0, .slice none 0 0, .bool false][j]? = some u → (w.alloc (.cells #[.int .i64 ((placesN n : Nat) : Int), .slice none 0 0, .slice none 0 0, .bool false] t)).cell? ⟨w.heap.size, j, none⟩ = some u := by
    intro j u hu
    rw [cell_of_row _ _ j _ t (0, 0) (heap_alloc_new w _)]
    exact hu
  refine ⟨fun _ => .slice none 0 0, rfl, hc 0 _ rfl, fun c => ?_, hc 3 _ rfl, fun j => by simp [go_sem], fun c => ?_, fun _ => by simp [Value.ownBlock], .inl rfl, new_ok n⟩
  · cases c
    · exact hc 2 _ rfl
    · exact hc 1 _ rfl
  · cases c <;> exact World.ownsRow_nil _ _ _ _
/-- A queue is laid bare. -/
theorem CV.bare {w : World} {b : Nat} {x : Qs α} {v : Bool → Value} (hv : CV T enc w b x v) (val : Value) :
    Done (cFace T enc) b (blk b v) val (bareX x) w (.returned val) ((((w.setCell ⟨b, 0, none⟩ (.int .i64 (x.pl : Nat))).setCell ⟨b, 1, none⟩ (.slice none 0 0)).setCell ⟨b, 2, none⟩ (.slice none 0 0)).setCell ⟨b, 3, none⟩ (.bool false)) := by
  have s0 := World.cell?_setCell_same w ⟨b, 0, none⟩ (.int .i64 (x.pl : Nat)) hv.c0
  have c1 := hv.cl true
  have c2 := hv.cl false
  have c3 := hv.c3
  replace c1 : w.cell? ⟨b, 1, none⟩ = some (v true) := c1
  replace c2 : w.cell? ⟨b, 2, none⟩ = some (v false) := c2
  have ne : ∀ {i j : Nat}, i ≠ j → (⟨b, i, none⟩ : Addr) ≠ ⟨b, j, none⟩ := fun h => off_ne b h
  refine ⟨rfl, [b], ⟨fun _ => .slice none 0 0, rfl, ?_, fun c => ?_, ?_, fun j => ?_, fun c => ?_, fun _ => by simp [Value.ownBlock], .inl rfl, hv.ok.bare⟩, ?_, fun j hj => .inl (blk_mem.2 (.inl (by simpa using hj)))⟩
  · rw [World.cell?_setCell_other _ _ _ _ (ne (by decide)), World.cell?_setCell_other _ _ _ _ (ne (by decide)), World.cell?_setCell_other _ _ _ _ (ne (by decide))]
    exact s0
  · cases c
    · show World.cell? _ ⟨b, 2, none⟩ = _
      rw [World.cell?_setCell_other _ _ _ _ (ne (by decide))]
      exact World.cell?_setCell_same _ _ _ (by rw [World.cell?_setCell_other _ _ _ _ (ne (by decide)), World.cell?_setCell_other _ _ _ _ (ne (by decide))]; exact c2)
    · show World.cell? _ ⟨b, 1, none⟩ = _
      rw [World.cell?_setCell_other _ _ _ _ (ne (by decide)), World.cell?_setCell_other _ _ _ _ (ne (by decide))]
      exact World.cell?_setCell_same _ _ _ (by rw [World.cell?_setCell_other _ _ _ _ (ne (by decide))]; exact c1)
  · exact World.cell?_setCell_same _ _ _ (by rw [World.cell?_setCell_other _ _ _ _ (ne (by decide)), World.cell?_setCell_other _ _ _ _ (ne (by decide)), World.cell?_setCell_other _ _ _ _ (ne (by decide))]; exact c3)
  · rw [World.frozen?_setCell, World.frozen?_setCell, World.frozen?_setCell, World.frozen?_setCell]
    exact hv.fz j
  · cases c <;> exact World.ownsRow_nil _ _ _ _
  · have hm : b ∈ blk b v := blk_mem.2 (.inl rfl)
    exact (((OnlyL.set (w := w) hm 0 _).trans (OnlyL.set hm 1 _) (fun _ hj => .inl hj)).trans (OnlyL.set hm 2 _) (fun _ hj => .inl hj)).trans (OnlyL.set hm 3 _) (fun _ hj => .inl hj)
end

/-- A list with others laid over it from a place on. -/
def setL : List Value → Nat → List Value → List Value
  | xs, _, [] => xs
  | xs, o, v :: vs => setL (xs.set o v) (o + 1) vs
theorem setL_eq : ∀ (vs xs : List Value) (o : Nat), o + vs.length ≤ xs.length → setL xs o vs = xs.take o ++ vs ++ xs.drop (o + vs.length)
  | [], xs, o, _ => by simp [setL]
  | v :: vs, xs, o, h => by
    rw [setL, setL_eq vs _ _ (by simp at h ⊢; omega)]
    simp at h
    have e1 : (xs.set o v).take (o + 1) = xs.take o ++ [v] := by
      apply List.ext_getElem?
      intro t
      rw [List.getElem?_take, List.getElem?_set, List.getElem?_append]
      have hl : (xs.take o).length = o := by rw [List.length_take]; omega
      rw [hl]
      by_cases h1 : t < o
      · rw [if_pos (by omega), if_neg (by omega), if_pos h1, List.getElem?_take, if_pos h1]
      · by_cases h2 : t = o
        · subst h2
          rw [if_pos (by omega), if_pos rfl, if_pos (by omega), if_neg (by omega)]
          simp
        · rw [if_neg (by omega), if_neg h1]
          rw [List.getElem?_eq_none (by simp; omega)]
    have e2 : (xs.set o v).drop (o + 1 + vs.length) = xs.drop (o + 1 + vs.length) := List.drop_set_of_lt (by omega)
    rw [e1, e2, show o + (v :: vs).length = o + 1 + vs.length by simp; omega]
    simp
section
variable {T : TypeId}
theorem ownC_cells {g n cap : Nat} : ∀ (vs xs : List Value) (o : Nat) (w : World), w.ownsRow 0 T 1 (.slice (some ⟨g, 0, none⟩) n cap) n xs → (w.setCells g o vs).ownsRow 0 T 1 (.slice (some ⟨g, 0, none⟩) n cap) n (setL xs o vs)
  | [], _, _, _, h => h
  | v :: vs, xs, o, w, h => ownC_cells vs (xs.set o v) (o + 1) (w.setCell ⟨g, o, none⟩ v) (World.ownsRow.stored h o v).1
theorem only_cells {g : Nat} : ∀ (vs : List Value) (o : Nat) (w : World), OnlyL [g] w (w.setCells g o vs)
  | [], _, w => OnlyL.refl _ w
  | v :: vs, o, w => (OnlyL.set (ms := [g]) (w := w) (b := g) (by simp) o v).trans (only_cells vs (o + 1) (w.setCell ⟨g, o, none⟩ v)) (fun _ hj => .inl hj)
theorem ownC_less {w : World} {g n cap m : Nat} {xs : List Value} (h : w.ownsRow 0 T 1 (.slice (some ⟨g, 0, none⟩) n cap) n xs) (hm : m ≤ n) : w.ownsRow 0 T 1 (.slice (some ⟨g, 0, none⟩) m cap) m (xs.take m) := by
  rcases h.2 with ⟨h', _⟩ | ⟨g', cap', cur, h', hN, hg, h1, h2, h3, h4⟩
  · simp at h'
  · simp only [Value.slice.injEq, Option.some.injEq, Addr.mk.injEq, and_true, true_and] at h'
    obtain ⟨rfl, rfl⟩ := h'
    refine ⟨?_, .inr ⟨g, cap, cur, rfl, hN, hg, by omega, h2, h3, ?_⟩⟩
    · rw [List.length_take, h.1]; omega
    · rw [← h4, List.take_take]
      congr 1
      omega
theorem ownC_drew {w : World} {v : Value} {n : Nat} {xs : List Value} (h : w.ownsRow 0 T 1 v n xs) : w.drew.ownsRow 0 T 1 v n xs := ownC_of h (fun _ _ => rfl)
end
/-- The row with its first thing less, and a zero behind. -/
theorem less_one (l : List Value) (z : Value) (hl : 0 < l.length) : (setL (setL l 0 (l.drop 1)) (l.length - 1) [z]).take (l.length - 1) = l.drop 1 := by
  have h1 : (l.drop 1).length = l.length - 1 := by rw [List.length_drop]
  have h2 : setL l 0 (l.drop 1) = l.drop 1 ++ l.drop (l.length - 1) := by
    rw [setL_eq _ _ _ (by rw [h1]; omega), h1]
    simp
  have h4 : (setL l 0 (l.drop 1)).length = l.length := by
    rw [h2, List.length_append, h1, List.length_drop]; omega
  rw [setL_eq _ _ _ (by rw [h4]; simp; omega), List.append_assoc, List.take_append_of_le_length (by rw [List.length_take, h4]; omega), List.take_take, Nat.min_self, h2, List.take_append_of_le_length (by rw [h1]; omega), List.take_of_length_le (by rw [h1]; omega)]

end Go.Proofs.Ytpbiigpnbhgilaa.Qu
