/-
  A pen's memory, and the one call by which it writes bytes, walked: behind it the pen holds these bytes too, and nothing below the pen has turned. Conditions: fewer than a million bytes.
-/
import Derived.Test.YtocjimedbnjmiaaRows
import Derived.Test.YtocjimedbnjmiaaOctMath
import Derived.WalkKit
import Derived.WalkSpells
import Derived.WalkLawsBesides
import Derived.Lib.Hide
import Derived.Lib.AppendStr
import Derived.Below
import Derived.OwnWalk
namespace Go.Proofs.Ytocjimedbnjmiaa
open Go.RowKit
open Oct

theorem Try.infoOctet : (Try.prog.info? 5).map (fun i => (i.zero, i.size, i.bytes)) = some (some (.int .u8 0), 1, 1) := by kernel_rfl

/-- Bytes as cells. -/
def vals (l : List UInt8) : List Value := l.map fun c => Value.int .u8 (c.toNat : Int)

theorem vals_length (l : List UInt8) : (vals l).length = l.length := by simp [vals]
theorem vals_app (a b : List UInt8) : vals (a ++ b) = vals a ++ vals b := by simp [vals]
theorem vals_one (l : List UInt8) : ∀ u ∈ vals l, u.oneCell' = true := by
  intro u hu
  simp only [vals, List.mem_map] at hu
  obtain ⟨c, _, rfl⟩ := hu
  rfl

/-- What stands in a pen's one field: nil, or a row of its own. -/
def Held (N : Nat) (w : World) (p : Nat) (l : List UInt8) (v : Value) : Prop :=
  (l = [] ∧ v = .slice none 0 0) ∨ (∃ g cap, 1 ≤ l.length ∧ v = .slice (some ⟨g, 0, none⟩) l.length cap ∧ g ≠ p ∧ w.ownsRow N 5 1 v l.length (vals l))

/-- Block p is a pen that has written l; it and what it owns lie from block N on. -/
def PenAt (N : Nat) (w : World) (p : Nat) (l : List UInt8) : Prop :=
  ∃ v, N ≤ p ∧ w.cell? ⟨p, 0, none⟩ = some v ∧ w.frozen? ⟨p, 0, none⟩ = false ∧ Held N w p l v

theorem PenAt.lt {N : Nat} {w : World} {p : Nat} {l : List UInt8} (h : PenAt N w p l) : p < w.heap.size := by
  obtain ⟨v, _, hc, _⟩ := h
  exact World.block_lt_of_cell? w ⟨p, 0, none⟩ hc

theorem PenAt.ge {N : Nat} {w : World} {p : Nat} {l : List UInt8} (h : PenAt N w p l) : N ≤ p := by
  obtain ⟨v, hn, _⟩ := h
  exact hn

/-- What is new, and what turns beside the pen's own two blocks, plays no part. -/
theorem PenAt.below {N : Nat} {w w' : World} {p : Nat} {l : List UInt8} (h : PenAt N w p l) (hb : Below w.heap.size w w') : PenAt N w' p l := by
  have hlt := h.lt
  obtain ⟨v, hN, hc, hf, hv⟩ := h
  refine ⟨v, hN, (hb.cell (p := ⟨p, 0, none⟩) hlt).trans hc, (hb.frozen (p := ⟨p, 0, none⟩) hlt).trans hf, ?_⟩
  rcases hv with hv | ⟨g, cap, h1, rfl, hne, hown⟩
  · exact .inl hv
  · refine .inr ⟨g, cap, h1, rfl, hne, hown.kept (row := none) ⟨hb.os, hb.tape, hb.output, hb.size, fun k hk _ => hb.block k hk⟩ (.inr ?_)⟩
    simp [Value.ownBlock]

/-- A row that owns a byte does not begin where the pen stands. -/
theorem own_ne {N : Nat} {w : World} {p g n cap : Nat} {l : List UInt8} {v : Value} (h1 : 1 ≤ l.length) (hown : w.ownsRow N 5 1 (.slice (some ⟨g, 0, none⟩) n cap) n (vals l))
    (hc : w.cell? ⟨p, 0, none⟩ = some v) (hv : ∀ k x, v ≠ .int k x) : g ≠ p := by
  rintro rfl
  have hn : l.length = n := by have := hown.1; rw [vals_length] at this; omega
  have h0 := hown.cellAt 0 (by omega)
  rw [hc] at h0
  match l, h1 with
  | c :: l, _ =>
    simp [vals] at h0
    exact hv _ _ h0

/-- Behind a store into the pen's field. -/
theorem pen_stored {N : Nat} {w : World} {p : Nat} {l : List UInt8} {v u : Value} (hN : N ≤ p) (hc : w.cell? ⟨p, 0, none⟩ = some u) (hf : w.frozen? ⟨p, 0, none⟩ = false) (hv : Held N w p l v) :
    PenAt N (w.setCell ⟨p, 0, none⟩ v) p l := by
  refine ⟨v, hN, World.cell?_setCell_same _ _ _ hc, (World.frozen?_setCell _ _ _ _).trans hf, ?_⟩
  rcases hv with hv | ⟨g, cap, h1, rfl, hne, hown⟩
  · exact .inl hv
  · refine .inr ⟨g, cap, h1, rfl, hne, hown.kept (row := some p) ⟨rfl, rfl, rfl, by simp [World.setCell], fun k _ hk => Below.heap_setCell _ _ _ _ (fun e => hk (by simp [e]))⟩ (.inr ?_)⟩
    simp [Value.ownBlock, hne]

/-- What an append leaves: a value that owns bytes, one at least. -/
theorem held_of {N : Nat} {w : World} {p : Nat} {l : List UInt8} {v u : Value} (h1 : 1 ≤ l.length) (hown : w.ownsRow N 5 1 v l.length (vals l)) (hc : w.cell? ⟨p, 0, none⟩ = some u) (hu : ∀ k x, u ≠ .int k x) :
    ∃ g cap, v = .slice (some ⟨g, 0, none⟩) l.length cap ∧ Held N w p l v := by
  rcases hown.2 with ⟨_, h⟩ | ⟨g, cap, cur, rfl, _⟩
  · omega
  · exact ⟨g, cap, rfl, .inr ⟨g, cap, h1, rfl, own_ne h1 hown hc hu, hown⟩⟩

/-- Blocks of cells of another type, but the pen's own, are as they were. -/
def Beside (w w' : World) (p : Nat) : Prop := ∀ k cs t m, k ≠ p → t ≠ 5 → w.heap[k]? = some (.cells cs t m) → w'.heap[k]? = some (.cells cs t m)

theorem Beside.refl (w : World) (p : Nat) : Beside w w p := fun _ _ _ _ _ _ h => h
theorem Beside.trans {a b c : World} {p : Nat} (h : Beside a b p) (k : Beside b c p) : Beside a c p := fun j cs t m h1 h2 h3 => k j cs t m h1 h2 (h j cs t m h1 h2 h3)
theorem Beside.of_below {w w' : World} {p : Nat} (h : Below w.heap.size w w') : Beside w w' p := fun k _ _ _ _ _ h3 => (h.block k (Array.getElem?_eq_some_iff.1 h3).1).trans h3

theorem beside_of {N : Nat} {w w' : World} {p n : Nat} {v u : Value} {xs : List Value} (hown : w.ownsRow N 5 1 v n xs) (hg : w.grownBy w' v.ownBlock) : Beside w (w'.setCell ⟨p, 0, none⟩ u) p := by
  intro k cs t m h1 h2 h3
  rw [Below.heap_setCell _ _ _ _ h1]
  refine (hg.block k (Array.getElem?_eq_some_iff.1 h3).1 ?_).trans h3
  rcases hown.2 with ⟨rfl, _⟩ | ⟨g, cap, cur, rfl, _, hgg, _⟩
  · simp [Value.ownBlock]
  · intro e
    simp [Value.ownBlock] at e
    subst e
    rw [h3] at hgg
    injection hgg with hgg
    injection hgg with _ e2
    exact h2 e2

set_option maxHeartbeats 800000 in
theorem put_any (N p b m : Nat) (l news : List UInt8) (w : World) (hp : PenAt N w p l) (hN : N ≤ w.heap.size) (hm : news.length = m) (h1 : 1 ≤ m) (hl : l.length + m ≤ 1000000)
    (hb : ∀ j u, (vals news)[j]? = some u → w.cell? ((⟨b, 0, none⟩ : Addr).add j) = some u) :
    Calls Try.prog 50 #[.pointer (some ⟨p, 0, none⟩), .slice (some ⟨b, 0, none⟩) m m] w fun e w' => e = .returned (.pointer (some ⟨p, 0, none⟩)) ∧ PenAt N w' p (l ++ news) ∧ Below N w w' ∧ Beside w w' p := by
  obtain ⟨i0, hi, hz0, hz1, hz2⟩ := info_parts Try.infoOctet
  obtain ⟨v, hNp, hc, hf, hv⟩ := hp
  have hown0 : w.ownsRow N 5 1 v l.length (vals l) ∧ ((v = .slice none 0 0) ∨ ∃ g cap, v = .slice (some ⟨g, 0, none⟩) l.length cap ∧ g ≠ p) := by
    rcases hv with ⟨rfl, rfl⟩ | ⟨g, cap, _, rfl, hne, hown⟩
    · exact ⟨World.ownsRow_nil w N 5 1, .inl rfl⟩
    · exact ⟨hown, .inr ⟨g, cap, rfl, hne⟩⟩
  obtain ⟨hown, hsh⟩ := hown0
  clear hv
  have HM := Lib.hid hm
  have HB := Lib.hid hb
  have HO := Lib.hid hown
  have HI := Lib.hid hi
  have H0 := Lib.hid hz0
  have H1 := Lib.hid hz1
  have H2 := Lib.hid hz2
  clear hm hb hown hi hz0 hz1 hz2
  rcases hsh with rfl | ⟨g, cap, rfl, hne⟩
  all_goals
    go_enter Try.func50, Try.ntmps50
    go_wp2_with (at_builtin; refine wpList_append_own _ rfl (.tmp 11) (.tmp 12) 56 rfl N 5 i0 (.int .u8 0) 1 1 Try.underlying56 HI.out H0.out H1.out H2.out rfl (by decide) _ l.length (vals l) rfl HO.out ⟨b, 0, none⟩ m m (vals news) rfl (by rw [vals_length, HM.out, Nat.mul_one]) HB.out (vals_one _) (by unfold maxLen; omega) (by omega) hN ?_)
  all_goals
    intro v' w' hown' hgrow _
    have hlen : (l ++ news).length = l.length + m := by rw [List.length_append, HM.out]
    have hc' : w'.cell? ⟨p, 0, none⟩ = some _ := hgrow.cell hc (by simp [Value.ownBlock]; try (intro e; exact hne e.symm))
    have hf' : w'.frozen? ⟨p, 0, none⟩ = false := by
      rw [World.frozen?_of_block (w := w) (a := ⟨p, 0, none⟩) (hgrow.block p (World.block_lt_of_cell? w ⟨p, 0, none⟩ hc) (by simp [Value.ownBlock]; try (intro e; exact hne e.symm)))]
      exact hf
    have hbel : Below N w w' := (Below.refl N w).grown hgrow hN (fun k hk => (HO.out.lt k hk).1)
    rw [← vals_app, ← hlen] at hown'
    obtain ⟨g', cap', rfl, hheld⟩ := held_of (p := p) (by rw [hlen]; omega) hown' hc' (by simp)
    have HP := Lib.hid (pen_stored hNp hc' hf' hheld)
    have HE := Lib.hid (hbel.setCell (p := ⟨p, 0, none⟩) hNp (.slice (some ⟨g', 0, none⟩) (l ++ news).length cap'))
    have HQ := Lib.hid (fun u => beside_of (p := p) (u := u) HO.out hgrow)
    clear hown' hgrow hheld hbel hlen
    clear HO HB HI H0 H1 H2 HM
    go_wp2
    go_ret
    rw [← List.length_append]
    exact ⟨rfl, HP.out, HE.out, HQ.out _⟩

end Go.Proofs.Ytocjimedbnjmiaa
