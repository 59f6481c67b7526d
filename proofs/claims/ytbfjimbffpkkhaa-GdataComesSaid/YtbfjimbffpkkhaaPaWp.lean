/-
  Parts of several values: plain facts; bytes laid and copied. Conditions: as each states.
-/
import Derived.Test.YtbfjimbffpkkhaaPaLeft
import Derived.Test.YtbfjimbffpkkhaaPaPlain
import Derived.Lib.SlBuf
namespace Go.Proofs.Ytbfjimbffpkkhaa.Pa
open Go.RowKit

/-- A text cut off, or filled up. -/
def padV (n : Nat) (v : Bs) : Bs := v.take n ++ List.replicate (n - v.length) 0
theorem pad_len (n : Nat) (v : Bs) : (padV n v).length = n := by
  unfold padV
  rw [List.length_append, List.length_take, List.length_replicate]
  omega
theorem num_lt (k c : Nat) : numV (k / 3) k < numV (c / 3) c ↔ k < c := by unfold numV; omega

/-- The glue, and which value was put together last. -/
structure Wp (n m : Nat) (val : Nat → Bs) (g : Gl) (last : Int) : Prop where
  wg : WG n g
  lo : -1 ≤ last
  st : (g.is = false ∧ last = -1) ∨ (g.is = true ∧ ∃ c, c < m ∧ g.inc = c / 3 ∧ g.seq = c ∧ (∀ p, p < pN n → g.came.getD p [] = [] ∨ g.came.getD p [] = pcL (val c) p) ∧ (fullB g.came = true → last = c) ∧ (fullB g.came = false → last < c))
def whF (_ : Nat) (val : Nat → Bs) (k p : Nat) : Fr := spF (frW (k / 3) k) (val k) p
theorem wp_first (n m : Nat) (val : Nat → Bs) : Wp n m val g0 (-1) := ⟨wg_0 n, by omega, .inl ⟨rfl, rfl⟩⟩
section
variable {n m : Nat} {val : Nat → Bs} {g : Gl} {last : Int}
theorem wp_fits (hn : 1 ≤ n ∧ n ≤ 64) (hv : ∀ i, (val i).length = n) (k : Nat) {p : Nat} (hp : p < pN n) : fitsB n (whF n val k p) = true := by
  have := sp_fits (f := frW (k / 3) k) (v := val k) (p := p) (by rw [hv]; exact hn.2) (by rw [hv]; exact hp)
  rwa [hv] at this
theorem wp_fit (hn : 1 ≤ n ∧ n ≤ 64) {k : Nat} (hk : k < 8) {p : Nat} (hp : p < pN n) : FitF (whF n val k p) := by
  have h4 := pN_bd hn.1 hn.2
  have h5 := nP_le (val k)
  exact fitP (fitW (by omega) (by omega)) _ (by omega) (by omega)
theorem wp_put (h : Wp n m val g last) (hn : 1 ≤ n ∧ n ≤ 64) (hm : m ≤ 8) (hv : ∀ i, (val i).length = n) {k : Nat} (hk : k < m) {p : Nat} (hp : p < pN n) :
    (errB n g (whF n val k p) = 0 ∨ errB n g (whF n val k p) = 1 ∨ errB n g (whF n val k p) = 14) ∧
    (doneB n g (whF n val k p) = false → Wp n m val (putG n g (whF n val k p)) last) ∧
    (doneB n g (whF n val k p) = true → errB n g (whF n val k p) = 0 ∧ last < k ∧ outB n g (whF n val k p) = val k ∧ (putG n g (whF n val k p)).is = true ∧ (putG n g (whF n val k p)).inc = k / 3 ∧ (putG n g (whF n val k p)).seq = k ∧ Wp n m val (putG n g (whF n val k p)) k) := by
  have hfit := wp_fits hn hv k hp
  have hF := wp_fit (val := val) hn (k := k) (by omega) hp
  have hkind : (whF n val k p).kind = 4 := rfl
  have hpl : (pcL (val k) p).length = pL n p := by rw [pc_len, hv]
  have hne : pcL (val k) p ≠ [] := pc_ne (by rw [hv]; exact hp)
  have hE : errB n g (whF n val k p) = if olderB g (whF n val k p) then 1 else if twiceB n g (whF n val k p) then 14 else 0 := by
    unfold errB
    rw [if_pos hkind, if_pos hfit]
  have hlen := fresh_len (f := whF n val k p) h.wg
  have hfi : (freshG n g (whF n val k p)).is = true := fresh_is
  -- what is known of the version that the glue is at behind Put
  by_cases he : errB n g (whF n val k p) = 0
  · obtain ⟨-, -, hold, htw⟩ := err_zero he
    have hpg : putG n g (whF n val k p) = withB (freshG n g (whF n val k p)) (whF n val k p) := by unfold putG; rw [if_pos he]
    have hwg := put_wg h.wg hF
    have hx : (freshG n g (whF n val k p)).came.getD p [] = [] := by
      exact Decidable.not_not.1 (of_decide_eq_false htw)
    -- the version is k's, what came is k's, and last is less
    have key : (freshG n g (whF n val k p)).inc = k / 3 ∧ (freshG n g (whF n val k p)).seq = k ∧ (∀ q, q < pN n → (freshG n g (whF n val k p)).came.getD q [] = [] ∨ (freshG n g (whF n val k p)).came.getD q [] = pcL (val k) q) ∧ last < k := by
      by_cases hnw : newerB g (whF n val k p) = true
      · have hfr : freshG n g (whF n val k p) = ⟨true, k / 3, k, List.replicate (pN n) []⟩ := by unfold freshG; rw [if_pos hnw]; rfl
        rw [hfr]
        refine ⟨rfl, rfl, fun q _ => .inl (getD_rep _ _), ?_⟩
        rcases h.st with ⟨-, hl⟩ | ⟨hi, c, hc, h1, h2, -, h4, h5⟩
        · omega
        · unfold newerB at hnw
          rw [hi, h1, h2, Bool.not_true, Bool.false_or, decide_eq_true_iff] at hnw
          have hck : c < k := (num_lt c k).1 hnw
          cases hfu : fullB g.came
          · have := h5 hfu; omega
          · have := h4 hfu; omega
      · have hfr : freshG n g (whF n val k p) = g := by unfold freshG; rw [if_neg hnw]
        rw [hfr] at hx ⊢
        rcases h.st with ⟨hi, -⟩ | ⟨hi, c, hc, h1, h2, h3, h4, h5⟩
        · exact absurd (by unfold newerB; rw [hi, Bool.not_false, Bool.true_or]) hnw
        · unfold newerB at hnw
          rw [hi, h1, h2, Bool.not_true, Bool.false_or, decide_eq_true_iff] at hnw
          unfold olderB at hold
          rw [hi, h1, h2, Bool.true_and, decide_eq_false_iff_not] at hold
          have hck1 : ¬ c < k := fun h => hnw ((num_lt c k).2 h)
          have hck2 : ¬ k < c := fun h => hold ((num_lt k c).2 h)
          have hck : c = k := by omega
          subst hck
          refine ⟨h1, h2, h3, ?_⟩
          cases hfu : fullB g.came
          · exact h5 hfu
          · exact absurd hx (full_at hfu (by rw [h.wg.len hi]; exact hp))
    obtain ⟨k1, k2, k3, k4⟩ := key
    have hcame : ∀ q, q < pN n → (putG n g (whF n val k p)).came.getD q [] = [] ∨ (putG n g (whF n val k p)).came.getD q [] = pcL (val k) q := by
      intro q hq
      rw [hpg]
      show ((freshG n g (whF n val k p)).came.set p (pcL (val k) p)).getD q [] = [] ∨ ((freshG n g (whF n val k p)).came.set p (pcL (val k) p)).getD q [] = _
      rw [getD_set _ _ _ _ (by omega)]
      by_cases e : q = p
      · rw [if_pos e, e]; exact .inr rfl
      · rw [if_neg e]; exact k3 q hq
    have hi2 : (putG n g (whF n val k p)).is = true := by rw [hpg]; exact hfi
    have hin : (putG n g (whF n val k p)).inc = k / 3 := by rw [hpg]; exact k1
    have hse : (putG n g (whF n val k p)).seq = k := by rw [hpg]; exact k2
    have hdb : doneB n g (whF n val k p) = fullB (putG n g (whF n val k p)).came := by unfold doneB; rw [he]; simp
    refine ⟨.inl he, fun hd => ⟨hwg, h.lo, .inr ⟨hi2, k, hk, hin, hse, hcame, fun hfu => ?_, fun _ => k4⟩⟩, fun hd => ⟨he, k4, ?_, hi2, hin, hse, ⟨hwg, by omega, .inr ⟨hi2, k, hk, hin, hse, hcame, fun _ => rfl, fun hfu => ?_⟩⟩⟩⟩
    · rw [← hdb, hd] at hfu; cases hfu
    · have hfu : fullB (putG n g (whF n val k p)).came = true := by rw [← hdb]; exact hd
      unfold outB
      rw [hd, if_pos rfl]
      have hl2 := hwg.len hi2
      rw [came_all (v := val k) hl2 (fun q hq => (hcame q hq).resolve_left (full_at hfu (by omega))), join_pcs]
      have := take_all (val k)
      rw [num_pN, hv] at this
      exact this
    · rw [← hdb, hd] at hfu; cases hfu
  · have hpg : putG n g (whF n val k p) = g := by unfold putG; rw [if_neg he]
    have hd : doneB n g (whF n val k p) = false := by unfold doneB; simp [he]
    refine ⟨?_, fun _ => by rw [hpg]; exact h, fun h => by rw [hd] at h; cases h⟩
    rw [hE] at he ⊢
    split
    · exact .inr (.inl rfl)
    · rename_i ho
      rw [if_neg ho] at he
      split
      · exact .inr (.inr rfl)
      · rename_i ht
        rw [if_neg ht] at he
        exact absurd rfl he
end

/-! ### Bytes laid and copied -/
def bytesA (l : Bs) : Array Value := (l.map fun c => Value.int .u8 (c.toNat : Nat)).toArray
theorem bytesA_list (l : Bs) : (bytesA l).toList = l.map fun c => Value.int .u8 (c.toNat : Nat) := rfl
theorem conv_bytes (l : Bs) (n : Nat) (hl : l.length = n) (w : World) (b : Nat) (hb : w.heap[b]? = some (.cells (bytesA l) 5 (0, 0))) : (convert 69 9 (.slice (some ⟨b, 0, none⟩) n n)).run Try.prog w = .ok (.string (S l)) w := by
  have := run_convert_bytes_back (P := Try.prog) w 69 9 5 ⟨b, 0, none⟩ n l Try.underlying69 Try.underlying5 Try.underlying9 (fun j hj => by
    have e : (⟨b, 0, none⟩ : Addr).add j = ⟨b, 0 + j, none⟩ := Addr.add_mid _ 0 j
    rw [e, Nat.zero_add, cell_of_row _ _ _ _ _ _ hb, ← Array.getElem?_toList, bytesA_list]
    simp [hj])
  rw [hl] at this
  exact this
theorem setL_list : ∀ (vs : List Value) (A : Array Value), vs.length ≤ A.size → (setL A 0 vs).toList = vs ++ A.toList.drop vs.length := fun vs A h => by
  apply List.ext_getElem?
  intro j
  have h1 := setL_at vs A 0 j (by omega)
  rw [Array.getElem?_toList, h1]
  by_cases hj : j < vs.length
  · rw [if_pos (by omega), List.getElem?_append_left hj, Nat.sub_zero]
  · rw [if_neg (by omega), List.getElem?_append_right (by omega), List.getElem?_drop, show vs.length + (j - vs.length) = j by omega]
    simp
theorem run_copy_pad (n : Nat) (v : Bs) (ty : TypeId) (w : World) :
    ∃ z, (Builtin.copy_ #[69, 9] ty #[.slice (some ⟨w.heap.size, 0, none⟩) n n, .string (S v)]).run Try.prog (w.alloc (.cells (madeCells #[.int .u8 0] n) 5)) = .ok z (w.alloc (.cells (bytesA (padV n v)) 5)) := by
  have hs : (S v).size = v.length := S_size v
  have hz : ∀ w : World, (Go.sizeOf 5).run Try.prog w = .ok 1 w := sizeU8
  have hmk : (madeCells #[Value.int .u8 0] n).size = n := size_madeCells _ _
  have htk : List.take (Nat.min v.length n) (v.map fun x => Value.int .u8 (x.toNat : Int)) = (v.take n).map fun x => Value.int .u8 (x.toNat : Int) := by
    rw [← List.map_take, show Nat.min v.length n = min v.length n from rfl]
    congr 1
    rcases Nat.le_total v.length n with h | h
    · rw [Nat.min_eq_left h, List.take_of_length_le (Nat.le_refl _), List.take_of_length_le h]
    · rw [Nat.min_eq_right h]
  have hl : ((v.take n).map fun x => Value.int .u8 (x.toNat : Int)).length ≤ n := by rw [List.length_map, List.length_take]; omega
  have hst := run_storeCells_cells (P := Try.prog) w.heap.size 0 ((v.take n).map fun x => Value.int .u8 (x.toNat : Int)) 0 (w.alloc (.cells (madeCells #[.int .u8 0] n) 5)) (fun j hj => by
      rw [World.cell?_alloc_new, Array.getElem?_eq_getElem (by rw [hmk]; omega)]; rfl) (fun j hj => World.frozen?_alloc_new _ _ _ _) (by
      intro u hu
      obtain ⟨x, _, rfl⟩ := List.mem_map.1 hu
      rfl)
  have hset : (w.alloc (.cells (madeCells #[.int .u8 0] n) 5)).setCells w.heap.size 0 ((v.take n).map fun x => Value.int .u8 (x.toNat : Int)) = w.alloc (.cells (bytesA (padV n v)) 5) := by
    have e : ∀ (vs : List Value) (o : Nat) (c : Array Value), (w.alloc (.cells c 5)).setCells w.heap.size o vs = w.alloc (.cells (setL c o vs) 5) := by
      intro vs
      induction vs with
      | nil => intro o c; rfl
      | cons v vs ih => intro o c; rw [World.setCells, World.setCell_alloc_at (hn := rfl), ih, setL]
    rw [e]
    congr 2
    apply Array.ext'
    rw [setL_list _ _ (by rw [hmk]; exact hl), toList_madeCells_one, List.drop_replicate, bytesA_list]
    unfold padV
    rw [List.map_append, List.map_replicate, List.length_map, List.length_take]
    congr 2
    omega
  refine ⟨goInt (Nat.min v.length n), ?_⟩
  have hd : (S v).data.toList = v := rfl
  simp [Builtin.copy_, run_underlying Try.underlying69, Builtin.lenOf, Builtin.firstCells, hz, hs, hd]
  rw [htk, hst, hset]
  rfl
end Go.Proofs.Ytbfjimbffpkkhaa.Pa
