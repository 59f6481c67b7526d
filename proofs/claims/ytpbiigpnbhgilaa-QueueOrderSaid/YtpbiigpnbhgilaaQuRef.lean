/-
  The reference's queue: class, New, Put, Take, Len, walked. Conditions: texts no longer than may be.
-/
import Derived.Test.YtpbiigpnbhgilaaQuFace
import Derived.Deep.RegionWith
namespace Go.Proofs.Ytpbiigpnbhgilaa.Qu
open Go.RowKit

def strs (l : List ByteArray) : List Value := l.map Value.string
theorem strs_length (l : List ByteArray) : (strs l).length = l.length := by simp [strs]
theorem strs_at (l : List ByteArray) (i : Nat) (h : i < l.length) : (strs l)[i]? = some (.string l[i]) := by simp [strs, h]
theorem infoStr : (Try.prog.info? 9).map (fun i => (i.zero, i.size, i.bytes)) = some (some (.string ⟨#[]⟩), 1, 16) := by kernel_rfl
theorem info_parts {P : Program} {t : TypeId} {z : Option Value} {a b : Nat} (h : (P.info? t).map (fun i => (i.zero, i.size, i.bytes)) = some (z, a, b)) : ∃ i, P.info? t = some i ∧ i.zero = z ∧ i.size = a ∧ i.bytes = b := by
  cases hi : P.info? t with
  | none => rw [hi] at h; cases h
  | some i =>
    rw [hi] at h
    simp at h
    exact ⟨i, rfl, h.1, h.2.1, h.2.2⟩
abbrev TailS (w : World) (v : Value) (l : List ByteArray) : Prop := Tail w 0 9 1 v l.length (strs l)
def col (h : Bool) : Nat := if h then 2 else 1

/-- The reference's object: a block with the places, both rows' heads and the fault, and the rows' own blocks. -/
structure RefV (w : World) (b : Nat) (x : Qs ByteArray) (v : Bool → Value) : Prop where
  c0 : w.cell? ⟨b, 0, none⟩ = some (.int .i64 (x.pl : Nat))
  cl : ∀ h, w.cell? ⟨b, col h, none⟩ = some (v h)
  c3 : w.cell? ⟨b, 3, none⟩ = some (.bool x.f)
  fz : ∀ j, w.frozen? ⟨b, j, none⟩ = false
  row : ∀ h, TailS w (v h) (ofC x h)
  nb : ∀ h, (v h).ownBlock ≠ some b
  apart : (v false).ownBlock = none ∨ (v false).ownBlock ≠ (v true).ownBlock
  ok : x.Ok
def RefAt (w : World) (b : Nat) (ms : List Nat) (x : Qs ByteArray) : Prop := ∃ v, ms = b :: ((v false).ownBlock.toList ++ (v true).ownBlock.toList) ∧ RefV w b x v
theorem own_mem {v : Bool → Value} {b k : Nat} (h : Bool) (hk : (v h).ownBlock = some k) : k ∈ b :: ((v false).ownBlock.toList ++ (v true).ownBlock.toList) := by
  cases h <;> simp [hk]

def refFace : Face ByteArray where
  At := RefAt
  of := by
    rintro w w' b ms x ⟨v, rfl, h⟩ hb
    have hbb := hb b (by simp)
    exact ⟨v, rfl, (World.cell?_of_block (a := ⟨b, 0, none⟩) hbb).trans h.c0, fun c => (World.cell?_of_block (a := ⟨b, col c, none⟩) hbb).trans (h.cl c), (World.cell?_of_block (a := ⟨b, 3, none⟩) hbb).trans h.c3,
      fun j => (World.frozen?_of_block (a := ⟨b, j, none⟩) hbb).trans (h.fz j), fun c => (h.row c).of (fun k hk => hb k (own_mem c hk)), h.nb, h.apart, h.ok⟩
  lt := by
    rintro w b ms x ⟨v, rfl, h⟩ k hk
    simp only [List.mem_cons, List.mem_append, Option.mem_toList] at hk
    rcases hk with rfl | hk | hk
    · exact World.block_lt_of_cell? w ⟨k, 0, none⟩ h.c0
    · exact ((h.row false).lt k hk).2
    · exact ((h.row true).lt k hk).2
  ok := by
    rintro w b ms x ⟨v, rfl, h⟩
    exact h.ok

/-- One row's head is stored anew: the row lies there already. -/
theorem RefV.store {w W : World} {b : Nat} {x : Qs ByteArray} {v : Bool → Value} (hv : RefV w b x v) (h : Bool) (u : Value) (l : List ByteArray)
    (hb : W.heap[b]? = w.heap[b]?) (ho : TailS W (v (!h)) (ofC x (!h))) (hu : TailS W u l) (hub : u.ownBlock ≠ some b) (hun : u.ownBlock = none ∨ u.ownBlock ≠ (v (!h)).ownBlock) (hok : (setC x h l).Ok) :
    RefV (W.setCell ⟨b, col h, none⟩ u) b (setC x h l) (fun c => if c = h then u else v c) := by
  have hset : ∀ k, k ≠ b → (W.setCell ⟨b, col h, none⟩ u).heap[k]? = W.heap[k]? := fun k hk => Below.heap_setCell _ _ _ _ hk
  have g0 := (World.cell?_of_block (a := ⟨b, 0, none⟩) hb).trans hv.c0
  have gl := fun c => (World.cell?_of_block (a := ⟨b, col c, none⟩) hb).trans (hv.cl c)
  have g3 := (World.cell?_of_block (a := ⟨b, 3, none⟩) hb).trans hv.c3
  have gf := fun j => (World.frozen?_of_block (a := ⟨b, j, none⟩) hb).trans (hv.fz j)
  have hu2 : TailS (W.setCell ⟨b, col h, none⟩ u) u l := hu.of (fun k hk => hset k (fun e => hub (by rw [hk, e])))
  have ho2 : TailS (W.setCell ⟨b, col h, none⟩ u) (v (!h)) (ofC x (!h)) := ho.of (fun k hk => hset k (fun e => hv.nb (!h) (by rw [hk, e])))
  refine ⟨?_, fun c => ?_, ?_, fun j => (World.frozen?_setCell _ _ _ _).trans (gf j), fun c => ?_, fun c => ?_, ?_, hok⟩
  · rw [World.cell?_setCell_other _ _ _ _ (off_ne b (by cases h <;> decide)), g0]
    cases h <;> rfl
  · by_cases hc : c = h
    · subst hc
      rw [if_pos rfl]
      exact World.cell?_setCell_same _ _ _ (gl c)
    · rw [if_neg hc, World.cell?_setCell_other _ _ _ _ (off_ne b (by cases h <;> cases c <;> first | decide | exact absurd rfl hc))]
      exact gl c
  · rw [World.cell?_setCell_other _ _ _ _ (off_ne b (by cases h <;> decide)), g3]
    cases h <;> rfl
  · by_cases hc : c = h
    · subst hc
      rw [if_pos rfl, set_of]
      exact hu2
    · rw [if_neg hc]
      have : c = !h := by cases c <;> cases h <;> first | rfl | exact absurd rfl hc
      subst this
      have e : ofC (setC x h l) (!h) = ofC x (!h) := by cases h <;> rfl
      rw [e]
      exact ho2
  · by_cases hc : c = h
    · rw [if_pos hc]; exact hub
    · rw [if_neg hc]; exact hv.nb c
  · cases h
    · simp only [if_true, Bool.true_eq_false, if_false]
      exact hun
    · simp only [if_true, Bool.false_eq_true, if_false]
      rcases hv.apart with e | e
      · exact .inl e
      · rcases hun with e2 | e2
        · by_cases e3 : (v false).ownBlock = none
          · exact .inl e3
          · right; rw [e2]; exact e3
        · right; exact fun e3 => e2 e3.symm
/-- The fault is stored. -/
theorem RefV.fault {w : World} {b : Nat} {x : Qs ByteArray} {v : Bool → Value} (hv : RefV w b x v) (f : Bool) : RefV (w.setCell ⟨b, 3, none⟩ (.bool f)) b ⟨x.pl, x.hi, x.lo, f⟩ v := by
  have hset : ∀ k, k ≠ b → (w.setCell ⟨b, 3, none⟩ (.bool f)).heap[k]? = w.heap[k]? := fun k hk => Below.heap_setCell _ _ _ _ hk
  refine ⟨?_, fun c => ?_, World.cell?_setCell_same _ _ _ hv.c3, fun j => (World.frozen?_setCell _ _ _ _).trans (hv.fz j), fun c => (hv.row c).of (fun k hk => hset k (fun e => hv.nb c (by rw [hk, e]))), hv.nb, hv.apart, ⟨hv.ok.fits, hv.ok.pl⟩⟩
  · rw [World.cell?_setCell_other _ _ _ _ (off_ne b (by decide))]; exact hv.c0
  · rw [World.cell?_setCell_other _ _ _ _ (off_ne b (by cases c <;> decide))]; exact hv.cl c

theorem rclass_any (h : Bool) (w : World) : Calls Try.prog 26 #[.bool h] w fun e w' => e = .returned (.int .i64 ((h.toNat : Nat) : Int)) ∧ w = w' := by
  cases h
  all_goals
    go_enter Try.func26, Try.ntmps26
    go_wp2
    go_ret
    exact ⟨rfl, rfl⟩

def maxI (n : Int) : Int := if n < 0 then 0 else n
theorem run_maxI (n : Int) (ts : Array TypeId) (t : TypeId) (W : World) : (Builtin.max_ ts t #[.int .i64 n, .int .i64 0]).run Try.prog W = .ok (.int .i64 (maxI n)) W := by
  have e : (if 0 > n then 0 else n) = maxI n := rfl
  rw [run_max_int2, e]
theorem run_minI (n : Int) (ts : Array TypeId) (t : TypeId) (W : World) : (Builtin.min_ ts t #[.int .i64 (maxI n), .int .i64 64]).run Try.prog W = .ok (.int .i64 ((placesN n : Nat) : Int)) W := by
  have e : (if 64 < maxI n then 64 else maxI n) = ((placesN n : Nat) : Int) := by unfold placesN maxI; split <;> split <;> omega
  rw [run_min_int2, e]

theorem RefAt.fresh (w : World) (n : Int) (t : TypeId) : RefAt (w.alloc (.cells #[.int .i64 ((placesN n : Nat) : Int), .slice none 0 0, .slice none 0 0, .bool false] t)) w.heap.size [w.heap.size] (newX n) := by
  have hc : ∀ j u, #[Value.int .i64 ((placesN n : Nat) : Int), .slice none 0 0, .slice none 0 0, .bool false][j]? = some u → (w.alloc (.cells #[.int .i64 ((placesN n : Nat) : Int), .slice none 0 0, .slice none 0 0, .bool false] t)).cell? ⟨w.heap.size, j, none⟩ = some u := by
    intro j u hu
    rw [cell_of_row _ _ j _ t (0, 0) (heap_alloc_new w _)]
    exact hu
  refine ⟨fun _ => .slice none 0 0, rfl, hc 0 _ rfl, fun c => ?_, hc 3 _ rfl, fun j => by simp [go_sem], fun c => ?_, fun _ => by simp [Value.ownBlock], .inl rfl, new_ok n⟩
  · cases c
    · exact hc 1 _ rfl
    · exact hc 2 _ rfl
  · cases c <;> exact Tail.nil _ _ _ _

set_option maxHeartbeats 800000 in
theorem rnew_any (n : Int) (w : World) : Calls Try.prog 7 #[.int .i64 n] w (News refFace (newX n) w) := by
  have h1 := run_maxI n
  have h2 := run_minI n
  have HF := Lib.hid (fun t => RefAt.fresh w n t)
  have HB := Lib.hid (fun o => alloc_below w o)
  generalize placesN n = k at *
  generalize maxI n = m at *
  go_enter Try.func7, Try.ntmps7
  go_wp2
  go_ret
  exact ⟨_, _, rfl, HF.out _, fun j hj => by simp at hj; omega, HB.out _⟩

set_option maxHeartbeats 800000 in
theorem rlen_core (b : Nat) (ms : List Nat) (x : Qs ByteArray) (h : Bool) (w : World) (hx : RefAt w b ms x) :
    Calls Try.prog 16 #[.pointer (some ⟨b, 0, none⟩), .bool h] w fun e w' => e = .returned (.int .i64 ((ofC x h).length : Nat)) ∧ ∃ k, w' = w.drewN k := by
  obtain ⟨v, rfl, hv⟩ := hx
  have c := hv.cl h
  obtain ⟨A, cp, hA⟩ := (hv.row h).form0
  rw [hA] at c
  have HC := Lib.hid (fun n => (rclass_any h (w.drewN n)).mono fun _ _ ⟨h1, h2⟩ => (⟨h1, h2.symm⟩ : _ ∧ _))
  clear hv hA
  cases h
  all_goals
    simp only [col, if_true, if_false, Bool.false_eq_true] at c
    go_enter Try.func16, Try.ntmps16
    go_wp2_with fail
    go_quiet ((go_at_call 26; exact Calls.quiet_of_same (HC.out _)))
    go_wp2
    go_ret
    exact ⟨rfl, _, rfl⟩
theorem rlen_any (b : Nat) (ms : List Nat) (x : Qs ByteArray) (h : Bool) (w : World) (m : Nat) (hx : RefAt w b ms x) :
    Calls Try.prog 16 #[.pointer (some ⟨b, 0, none⟩), .bool h] (w.drewN m) fun e w' => e = .returned (.int .i64 ((ofC x h).length : Nat)) ∧ ∃ k, w' = w.drewN k :=
  (rlen_core b ms x h (w.drewN m) (Face.below (F := refFace) hx ⟨rfl, rfl, rfl, Nat.le_refl _, fun _ _ => rfl⟩)).mono fun _ _ ⟨h1, _, h2⟩ => ⟨h1, _, h2.trans (World.drewN_drewN _ _ _)⟩

end Go.Proofs.Ytpbiigpnbhgilaa.Qu
