/-
  A set's text, the program's and the reference's, walked. Conditions: none.
-/
import Derived.Test.YtgeelnpdahlcpaaDoorMemBetw
import Derived.Test.YtgeelnpdahlcpaaDoorMemShelf
import Derived.Lib.Join
namespace Go.Proofs.YtgeelnpdahlcpaaDoor
open Go.RowKit

/-- A number's decimal digits. -/
def dgs (n : Nat) : ByteArray := ⟨(Lib.decDigits n).toArray⟩
theorem dgs_fin : ∀ n : Fin 100, (Lib.decDigits n.val).length ≤ 2 := by
  intro n
  by_cases h : n.val < 10
  · rw [Lib.decDigits, dif_pos h]; simp
  · rw [Lib.decDigits, dif_neg h, Lib.decDigits, dif_pos (by omega)]; simp
theorem dgs_len (n : Nat) (h : n < 100) : (Lib.decDigits n).length ≤ 2 := dgs_fin ⟨n, h⟩
theorem dgs_size (n : Nat) (h : n < 100) : (dgs n).size ≤ 2 := by
  have : (dgs n).size = (Lib.decDigits n).length := by simp [dgs, ByteArray.size]
  rw [this]
  exact dgs_len n h
theorem dec_lt (u : Nat) (h : u < 10) : Lib.decDigits u = [UInt8.ofNat (48 + u)] := by rw [Lib.decDigits, dif_pos h]
theorem dec_ge (u : Nat) (h : ¬ u < 10) : Lib.decDigits u = Lib.decDigits (u / 10) ++ [UInt8.ofNat (48 + u % 10)] := by rw [Lib.decDigits, dif_neg h]
theorem ret_str {a b : ByteArray} (h : a = b) : Ending.returned (.string a) = .returned (.string b) := by rw [h]

/-- One byte as a text. -/
def oneB (b : Nat) : ByteArray := ⟨#[UInt8.ofNat b]⟩
theorem oneB_size (b : Nat) : (oneB b).size ≤ 1 := Nat.le_refl _
theorem oneB_list (b : Nat) : (oneB b).data.toList = [UInt8.ofNat b] := rfl
theorem app_list (a b : ByteArray) : (a ++ b).data.toList = a.data.toList ++ b.data.toList := by simp [ByteArray.data_append]
theorem size_list (s : ByteArray) : s.data.toList.length = s.size := Array.length_toList

theorem box_cell (w : World) (cs : Array Value) (t : TypeId) (k : Nat) (v : Value) (h : cs[k]? = some v) : (w.alloc (.cells cs t)).cell? ⟨w.heap.size, k, none⟩ = some v := by
  rw [World.cell?_alloc_new]; exact h

/-- Go's string of one byte in a new block. -/
theorem conv_one (w : World) (b : Nat) (z : Int) (hb : b < 256) (hz : z = (b : Int)) :
    (convert 52 9 (.slice (some ⟨w.heap.size, 0, none⟩) 1 1)).run Tryd.prog (w.alloc (.cells #[.int .u8 z] 5)) = .ok (.string (oneB b)) (w.alloc (.cells #[.int .u8 z] 5)) := by
  subst hz
  refine run_convert_bytes_back (P := Tryd.prog) _ 52 9 5 ⟨w.heap.size, 0, none⟩ 1 [UInt8.ofNat b] Tryd.underlying52 Tryd.underlying5 Tryd.underlying9 fun j hj => ?_
  obtain rfl : j = 0 := by simpa using hj
  refine box_cell w _ _ 0 _ ?_
  have : b % 256 = b := Nat.mod_eq_of_lt hb
  simp [this]

theorem rest_size {u k : Nat} {s : ByteArray} (hsz : (dgs u).size ≤ 2) (hd : Lib.decDigits u = Lib.decDigits k ++ s.data.toList) : s.size ≤ 2 := by
  have h := congrArg List.length hd
  have h1 : (dgs u).size = (Lib.decDigits u).length := by simp [dgs, ByteArray.size]
  have h2 : s.size = s.data.toList.length := (Array.length_toList).symm
  simp only [List.length_append] at h
  omega
theorem dgs_of {u : Nat} {s : ByteArray} (h : Lib.decDigits u = s.data.toList) : s = dgs u := by
  unfold dgs
  rw [h]
/-- One text behind another one, of few bytes. -/
theorem add_run {a b : ByteArray} (m n : Nat) (ha : a.size ≤ m) (hb : b.size ≤ n) (h : m + n ≤ 1000) (W : World) : (Op.stringOp .add a b).run Tryd.prog W = .ok (.string (a ++ b)) W :=
  run_string_add_sum W a b (by omega)

set_option maxRecDepth 100000 in
set_option maxHeartbeats 2000000 in
theorem rdigits_any (u : Nat) (hu : u < 100) (w : World) : Calls Tryd.prog 39 #[.int .i64 u] w fun e w' => e = .returned (.string (dgs u)) ∧ Below w.heap.size w w' := by
  have hsz := Lib.hid (dgs_size u hu)
  go_enter Tryd.func39, Tryd.ntmps39
  go_wp2
  go_loopw [0, 3] (fun n t wr => ∃ (k : Nat) (s : ByteArray), k < 100 ∧ n = .int .i64 k ∧ t = .string s ∧ Hid (Lib.decDigits u = Lib.decDigits k ++ s.data.toList) ∧ Below w.heap.size w wr) (fun n _ _ => (intOf n).toNat)
  case atStart => exact ⟨u, ByteArray.empty, hu, rfl, rfl, Lib.hid (by simp), Below.refl _ _⟩
  case round =>
    obtain ⟨k, s, hk, rfl, rfl, hd, hbel⟩ := hrel
    by_cases h10 : k < 10
    · have hc : decide ((10 : Int) ≤ (k : Int)) = false := by simp; omega
      have hcv := conv_one wr (48 + k) (48 + (k : Int)) (by omega) (by simp)
      have hadd := add_run (a := oneB (48 + k)) (b := s) 1 2 (oneB_size _) (rest_size hsz.out hd.out) (by omega)
      have HS := Lib.hid (dgs_of (u := u) (s := oneB (48 + k) ++ s) (by rw [hd.out, dec_lt k h10, app_list, oneB_list]))
      go_wp2
      go_ret
      exact ⟨ret_str HS.out, hbel.alloc hbel.size _⟩
    · have hc : decide ((10 : Int) ≤ (k : Int)) = true := by simp; omega
      have hcv := conv_one wr (48 + k % 10) (48 + (k : Int) % 10) (by omega) (by simp)
      have hadd := add_run (a := oneB (48 + k % 10)) (b := s) 1 2 (oneB_size _) (rest_size hsz.out hd.out) (by omega)
      go_wp2
      go_roundw
      case rel => exact ⟨k / 10, oneB (48 + k % 10) ++ s, by omega, by go_num, rfl, Lib.hid (by rw [hd.out, dec_ge k h10, app_list, oneB_list, List.append_assoc]), hbel.alloc hbel.size _⟩
      case measure => simp [intOf]; omega

/-- The numerals, with commas between. -/
def joinL (l : List Nat) : List UInt8 := Lib.join ((l.map dgs).map (·.data.toList)) [44]
def outL (l : List Nat) : ByteArray := ⟨(123 :: joinL l).toArray⟩
def textL (l : List Nat) : ByteArray := ⟨(123 :: joinL l ++ [125]).toArray⟩
theorem ba_app (a b : List UInt8) : (⟨a.toArray⟩ : ByteArray) ++ ⟨b.toArray⟩ = ⟨(a ++ b).toArray⟩ := by
  apply ByteArray.ext
  simp [ByteArray.data_append]
theorem joinL_snoc (l : List Nat) (x : Nat) : joinL (l ++ [x]) = if l = [] then Lib.decDigits x else joinL l ++ [44] ++ Lib.decDigits x := by
  unfold joinL
  cases l with
  | nil => simp [Lib.join_one, dgs]
  | cons a r =>
    simp only [List.cons_append, List.map_cons, List.map_append, List.map_nil, Lib.join_cons]
    simp [Lib.joinTail, dgs]
theorem lens_le : ∀ (l : List Nat), (∀ x ∈ l, x < 100) → Lib.lens ((l.map dgs).map (·.data.toList)) ≤ 2 * l.length
  | [], _ => by simp [Lib.lens]
  | a :: r, h => by
    have h1 := lens_le r (fun y hy => h y (by simp [hy]))
    have h2 := dgs_len a (h a (by simp))
    simp only [Lib.lens, List.map_cons, List.sum_cons, List.length_cons] at *
    have : (dgs a).data.toList.length = (Lib.decDigits a).length := by simp [dgs]
    omega
theorem joinL_len (l : List Nat) (h : ∀ x ∈ l, x < 100) : (joinL l).length ≤ 3 * l.length := by
  cases l with
  | nil => simp [joinL, Lib.join_nil]
  | cons a r =>
    have h1 := lens_le (a :: r) h
    unfold joinL
    rw [List.map_cons, List.map_cons, Lib.join_length]
    simp only [List.map_cons] at h1
    simp only [List.length_cons, List.length_nil, List.length_map] at *
    omega
theorem outL_size (l : List Nat) (n : Nat) (hn : l.length ≤ n) (h : ∀ x ∈ l, x < 100) : (outL l).size ≤ 3 * n + 1 := by
  have := joinL_len l h
  have e : (outL l).size = (joinL l).length + 1 := by simp [outL, ByteArray.size]
  omega
theorem outL_nil : outL [] = ⟨#[123]⟩ := by simp [outL, joinL, Lib.join_nil]
theorem outL_first (x : Nat) : (⟨#[123]⟩ : ByteArray) ++ dgs x = outL [x] := by
  have e : outL [x] = outL ([] ++ [x]) := rfl
  rw [e]
  unfold outL dgs
  rw [joinL_snoc, if_pos rfl, show (⟨#[123]⟩ : ByteArray) = ⟨[123].toArray⟩ from rfl, ba_app]
  rfl
theorem outL_next (l : List Nat) (x : Nat) (h : l ≠ []) : outL l ++ (⟨#[44]⟩ : ByteArray) ++ dgs x = outL (l ++ [x]) := by
  unfold outL dgs
  rw [joinL_snoc, if_neg h, show (⟨#[44]⟩ : ByteArray) = ⟨[44].toArray⟩ from rfl, ba_app, ba_app]
  simp
theorem outL_text (l : List Nat) : outL l ++ (⟨#[125]⟩ : ByteArray) = textL l := by
  unfold outL textL
  rw [show (⟨#[125]⟩ : ByteArray) = ⟨[125].toArray⟩ from rfl, ba_app]
theorem join_text (l : List Nat) : (⟨#[123]⟩ : ByteArray) ++ (⟨(joinL l).toArray⟩ : ByteArray) = outL l := by
  unfold outL
  rw [show (⟨#[123]⟩ : ByteArray) = ⟨[123].toArray⟩ from rfl, ba_app]
  rfl
theorem listB_small (s : St) : ∀ x ∈ listB s, x < 100 := fun x hx => by have := listB_lt s x hx; omega
theorem take_small {l : List Nat} (h : ∀ x ∈ l, x < 100) (k : Nat) : ∀ x ∈ l.take k, x < 100 := fun x hx => h x (List.mem_of_mem_take hx)

set_option maxRecDepth 100000 in
set_option maxHeartbeats 4000000 in
theorem rText_any (s : St) (w : World) : Calls Tryd.prog 20 #[sv s] w fun e w' => e = .returned (.string (textL (listB s))) ∧ Below w.heap.size w w' := by
  have hl := listB_len s
  have hsm := listB_small s
  have hr := rList_any s w
  generalize listB s = l at *
  have HSM := Lib.hid hsm
  clear hsm
  have hl' : (l.length : Int) ≤ 32 := by omega
  go_enter Tryd.func20, Tryd.ntmps20
  go_wp2_with fail
  refine hr.mono ?_
  rintro e w1 ⟨v, rfl, hv, hb⟩
  obtain ⟨A, c, rfl, hc⟩ := id hv
  have HV := Lib.hid hv
  have HB := Lib.hid hb
  clear hc hr hv hb
  go_wp2
  go_loopw [4, 5] (fun x i wr => ∃ k : Nat, k ≤ l.length ∧ x = .string (outL (l.take k)) ∧ i = .int .i64 k ∧ Hid (Lst wr (.slice A l.length c) l ∧ Below w.heap.size w wr)) (fun _ i _ => l.length - (intOf i).toNat)
  case atStart => exact ⟨0, Nat.zero_le _, by rw [List.take_zero, outL_nil], rfl, Lib.hid ⟨HV.out, HB.out⟩⟩
  case round =>
    obtain ⟨k, hk, rfl, rfl, hw⟩ := hrel
    by_cases hlt : k < l.length
    · obtain ⟨A', c', hv', hc'⟩ := hw.out.1
      obtain ⟨g, hA, _, hcell⟩ := hc' k hlt
      obtain ⟨rfl, -, -⟩ : A = A' ∧ l.length = l.length ∧ c = c' := by injection hv' with q1 q2 q3; exact ⟨q1, q2, q3⟩
      subst hA
      have hx := hcell k _ (List.getElem?_eq_getElem hlt)
      clear hcell hc' hv'
      have hd := Lib.hid (HSM.out l[k] (List.getElem_mem hlt))
      have s1 := outL_size (l.take k) 32 (by simp; omega) (take_small HSM.out k)
      have s2 := dgs_size l[k] hd.out
      have sc : (⟨#[44]⟩ : ByteArray).size ≤ 1 := by decide
      obtain ⟨T, HT⟩ : ∃ T, Hid (T = outL (l.take k)) := ⟨_, Lib.hid rfl⟩
      rw [← HT.out] at s1 ⊢
      by_cases h0 : k = 0
      · subst h0
        have a3 := add_run 97 2 s1 s2 (by omega)
        have HS := Lib.hid (show T ++ dgs l[0] = outL (l.take (0 + 1)) by
          rw [HT.out, take_next l 0 hlt, List.take_zero, outL_nil]; exact outL_first _)
        clear s1 s2 sc
        go_wp2_with fail
        refine (rdigits_any _ hd.out wr).mono ?_
        rintro e w2 ⟨rfl, hb2⟩
        have hw2 := Lib.hid (show Lst w2 (.slice (some ⟨g, 0, none⟩) l.length c) l ∧ Below w.heap.size w w2 from ⟨hw.out.1.below hb2, hw.out.2.trans (hb2.mono hw.out.2.size)⟩)
        go_wp2
        go_roundw
        case rel => exact ⟨1, by omega, by rw [HS.out], by go_num, hw2⟩
        case measure => simp [intOf]; omega
      · have b0 : 0 < k := by omega
        have a1 := add_run 97 1 s1 sc (by omega)
        have s3 : (T ++ (⟨#[44]⟩ : ByteArray)).size ≤ 98 := by rw [ByteArray.size_append]; omega
        have a3 := add_run 98 2 s3 s2 (by omega)
        have HS := Lib.hid (show T ++ (⟨#[44]⟩ : ByteArray) ++ dgs l[k] = outL (l.take (k + 1)) by
          rw [HT.out, take_next l k hlt]
          exact outL_next _ _ (by
            intro e
            have := congrArg List.length e
            rw [List.length_take, List.length_nil] at this
            omega))
        clear s1 s2 s3 sc h0
        go_wp2_with fail
        refine (rdigits_any _ hd.out wr).mono ?_
        rintro e w2 ⟨rfl, hb2⟩
        have hw2 := Lib.hid (show Lst w2 (.slice (some ⟨g, 0, none⟩) l.length c) l ∧ Below w.heap.size w w2 from ⟨hw.out.1.below hb2, hw.out.2.trans (hb2.mono hw.out.2.size)⟩)
        go_wp2
        go_roundw
        case rel => exact ⟨k + 1, by omega, by rw [HS.out], by go_num, hw2⟩
        case measure => simp [intOf]; omega
    · have ht : l.take k = l := List.take_of_length_le (by omega)
      rw [ht]
      have s1 := outL_size l 32 (by omega) HSM.out
      have sc : (⟨#[125]⟩ : ByteArray).size ≤ 1 := by decide
      have a1 := add_run 97 1 s1 sc (by omega)
      have HS := Lib.hid (outL_text l)
      clear s1 sc
      go_wp2
      go_ret
      exact ⟨ret_str HS.out, hw.out.2⟩

theorem Tryd.infoStr : (Tryd.prog.info? 9).map (fun i => (i.zero, i.size, i.bytes)) = some (some (.string ⟨#[]⟩), 1, 16) := by kernel_rfl
def svals (l : List Nat) : List Value := l.map fun n => Value.string (dgs n)
theorem svals_len (l : List Nat) : (svals l).length = l.length := by simp [svals]

theorem join_any (l : List Nat) (hl : l.length ≤ 32) (hs : ∀ x ∈ l, x < 100) (base : Nat) (v : Value) (w : World) (h : w.ownsRow base 9 1 v l.length (svals l)) :
    Calls Tryd.prog 38 #[v, .string ⟨#[44]⟩] w fun e w' => e = .returned (.string ⟨(joinL l).toArray⟩) ∧ Below w.heap.size w w' := by
  rcases h.2 with ⟨rfl, h0⟩ | ⟨g, cap, cur, rfl, hb, hg, hc, _⟩
  · have : l = [] := List.eq_nil_of_length_eq_zero h0
    subst this
    refine (Tryd.strings_Join_none none 0 ⟨#[44]⟩ w).mono ?_
    rintro e w' ⟨rfl, rfl⟩
    exact ⟨rfl, Below.refl _ _⟩
  · have hlt : g < w.heap.size := by
      rcases Nat.lt_or_ge g w.heap.size with hlt | hge
      · exact hlt
      · rw [Array.getElem?_eq_none hge] at hg; simp at hg
    have hj := Tryd.strings_Join g 0 cap (l.map dgs) ⟨#[44]⟩ w (fun j x hx => by
      have hj : j < l.length := by have := (List.getElem?_eq_some_iff.1 hx).1; simpa using this
      rw [Nat.zero_add, h.cellAt j (by omega)]
      simp only [svals, List.getElem?_map] at *
      cases hq : l[j]? with
      | none => simp [hq] at hx
      | some y => simp [hq] at hx ⊢; exact hx) hlt (by simp; omega) (by simpa using hc) (by
      have := joinL_len l hs
      unfold joinL at this
      exact Nat.le_trans this (by omega))
    simp only [List.length_map] at hj
    exact hj

theorem own_below {w w' : World} {base n size : Nat} {e : TypeId} {v : Value} {xs : List Value} (h : w.ownsRow base e size v n xs) (hb : Below w.heap.size w w') : w'.ownsRow base e size v n xs :=
  h.kept (row := none) ⟨hb.os, hb.tape, hb.output, hb.size, fun k hk _ => hb.block k hk⟩ (by
    rcases h.2 with ⟨rfl, _⟩ | ⟨g, cap, cur, rfl, _⟩
    · exact .inl rfl
    · exact .inr (by simp [Value.ownBlock]))

/-- What the loop over the words stands on. -/
def Wds (w wr : World) (N : Nat) (u : Value) (l : List Nat) (v : Value) (k : Nat) : Prop :=
  Lst wr u l ∧ Below N w wr ∧ N ≤ wr.heap.size ∧ wr.ownsRow N 9 1 v k (svals (l.take k)) ∧ ∀ g, u.ownBlock = some g → v.ownBlock ≠ some g
theorem Lst.grown {w w' : World} {u : Value} {l : List Nat} {row : Option Nat} (h : Lst w u l) (hg : w.grownBy w' row) (hne : ∀ g, u.ownBlock = some g → row ≠ some g) : Lst w' u l := by
  obtain ⟨A, c, rfl, h⟩ := h
  refine ⟨A, c, rfl, fun i hi => ?_⟩
  obtain ⟨g, rfl, hlt, hc⟩ := h i hi
  refine ⟨g, rfl, Nat.lt_of_lt_of_le hlt hg.size, fun j x hx => ?_⟩
  rw [← hc j x hx]
  exact World.cell?_of_block (hg.block g hlt (fun e => hne g rfl e.symm))
theorem Lst.new {w : World} {u : Value} {l : List Nat} (h : Lst w u l) (o : Obj) : Lst (w.alloc o) u l := h.below ((Below.refl _ _).alloc (Nat.le_refl _) _)

/-- One word more. -/
theorem Wds.next {w wr w3 : World} {N : Nat} {g c B d k : Nat} {A : Option Addr} {l : List Nat} {v1 : Value} {x : ByteArray} (h : Wds w wr N (.slice (some ⟨g, 0, none⟩) l.length c) l (.slice A k d) k) (hlt : k < l.length) (hx : x = dgs l[k])
    (hown : w3.ownsRow N 9 1 v1 (k + 1) (svals (l.take k) ++ [.string x])) (hg : (wr.alloc (.cells #[.string x] B)).grownBy w3 (Value.slice A k d).ownBlock)
    (hor : v1.ownBlock = (Value.slice A k d).ownBlock ∨ v1.ownBlock = some (wr.heap.size + 1)) : Wds w w3 N (.slice (some ⟨g, 0, none⟩) l.length c) l v1 (k + 1) := by
  obtain ⟨h1, h2, h3, h4, h5⟩ := h
  subst hx
  have hgl : g < wr.heap.size := by
    obtain ⟨A', c', hv', hc'⟩ := h1
    obtain ⟨g', hA, hl, _⟩ := hc' k hlt
    injection hv' with q1 q2 q3
    rw [hA] at q1
    injection q1 with q1
    injection q1 with q1
    omega
  refine ⟨(h1.new _).grown hg (fun g' hg' => h5 g' hg'), (h2.alloc h3 _).grown hg (by simp; omega) (own_base h4), ?_, ?_, ?_⟩
  · exact Nat.le_trans h3 (Nat.le_trans (by simp) hg.size)
  · have e : svals (l.take (k + 1)) = svals (l.take k) ++ [.string (dgs l[k])] := by
      rw [take_next l k hlt]; simp only [svals, List.map_append, List.map_cons, List.map_nil]
    rw [e]
    exact hown
  · intro g' hg'
    rcases hor with e | e
    · rw [e]; exact h5 g' hg'
    · rw [e]
      have : g' = g := by simpa [Value.ownBlock] using hg'.symm
      subst this
      intro e2
      injection e2 with e2
      omega

set_option maxRecDepth 100000 in
set_option maxHeartbeats 4000000 in
theorem Text_any (s : St) (w : World) : Calls Tryd.prog 19 #[sv s] w fun e w' => e = .returned (.string (textL (listB s))) ∧ Below w.heap.size w w' := by
  obtain ⟨i0, hi, hz0, hz1, hz2⟩ := info_parts Tryd.infoStr
  have HI := Lib.hid hi
  have H0 := Lib.hid hz0
  have H1 := Lib.hid hz1
  have H2 := Lib.hid hz2
  clear hi hz0 hz1 hz2
  have hl := listB_len s
  have hsm := listB_small s
  have hr := List_any s
  generalize listB s = l at *
  have HSM := Lib.hid hsm
  clear hsm
  have hl' : (l.length : Int) ≤ 32 := by omega
  have HO0 := Lib.hid (show (w.alloc (.cells #[] 9)).ownsRow w.heap.size 9 1 (.slice (some ⟨w.heap.size, 0, none⟩) 0 0) 0 [] from
    World.ownsRow_lit w #[] 0 (Nat.le_refl _) (by unfold maxLen; omega) rfl)
  go_enter Tryd.func19, Tryd.ntmps19
  go_wp2_with fail
  refine (hr _).mono ?_
  rintro e w1 ⟨v, rfl, hv, hb, hbase⟩
  obtain ⟨A, c, rfl, hc⟩ := id hv
  have HW := Lib.hid (show Wds w w1 w.heap.size (.slice A l.length c) l (.slice (some ⟨w.heap.size, 0, none⟩) 0 0) 0 from
    ⟨hv, ((Below.refl _ _).alloc (Nat.le_refl _) _).trans (hb.mono (by simp)), Nat.le_trans (by simp) hb.size, own_below HO0.out hb, fun g hg e => by
      have := hbase g hg
      have e : w.heap.size = g := by simpa [Value.ownBlock] using e
      simp at this
      omega⟩)
  clear hc hr hv hb HO0 hbase
  go_wp2
  generalize hN : w.heap.size = N at *
  go_loopw [3, 10] (fun x i wr => ∃ k : Nat, k ≤ l.length ∧ i = .int .i64 k ∧ Hid (Wds w wr N (.slice A l.length c) l x k)) (fun _ i _ => l.length - (intOf i).toNat)
  case atStart => exact ⟨0, Nat.zero_le _, rfl, HW⟩
  case round =>
    obtain ⟨k, hk, rfl, hw⟩ := hrel
    obtain ⟨B, d, rfl⟩ := own_form hw.out.2.2.2.1
    by_cases hlt : k < l.length
    · obtain ⟨A', c', hv', hc'⟩ := hw.out.1
      obtain ⟨g, hA, _, hcell⟩ := hc' k hlt
      obtain ⟨rfl, -, -⟩ : A = A' ∧ l.length = l.length ∧ c = c' := by injection hv' with q1 q2 q3; exact ⟨q1, q2, q3⟩
      subst hA
      have hx := hcell k _ (List.getElem?_eq_getElem hlt)
      clear hcell hc' hv'
      have hd := Lib.hid (HSM.out l[k] (List.getElem_mem hlt))
      have hsz : N ≤ wr.heap.size := hw.out.2.2.1
      have HO := Lib.hid (hw.out.2.2.2.1.alloc (.cells #[.string (dgs l[k])] 9))
      go_wp2_with fail
      refine (Tryd.strconv_Itoa_small l[k] hd.out wr).mono ?_
      rintro e w2 ⟨rfl, rfl⟩
      go_wp2_with (at_builtin; refine wpList_append_own_at _ rfl (.tmp 14) (.tmp 17) 45 rfl N 9 i0 (.string ⟨#[]⟩) 1 16 Tryd.underlying45 HI.out H0.out H1.out H2.out rfl (by decide) _ k (svals (l.take k)) rfl HO.out ⟨w2.heap.size, 0, none⟩ 1 1 [.string (dgs l[k])] rfl rfl (cell_one_new _ _ _) (by intro u hu; simp at hu; subst hu; rfl) (by unfold maxLen; omega) (by omega) (by simp; omega) ?_)
      intro v1 w3 hown hgrow _ hor
      have hw2 := Lib.hid (hw.out.next hlt rfl hown hgrow hor)
      clear hown hgrow HO hor
      go_wp2
      go_roundw
      case rel => exact ⟨k + 1, by omega, by go_num, hw2⟩
      case measure => simp [intOf]; omega
    · obtain rfl : k = l.length := by omega
      have ht : l.take l.length = l := List.take_of_length_le (Nat.le_refl _)
      have hown := hw.out.2.2.2.1
      rw [ht] at hown
      have HJ := Lib.hid (join_any l hl HSM.out N _ wr hown)
      have s1 : (⟨(joinL l).toArray⟩ : ByteArray).size ≤ 96 := by
        have := joinL_len l HSM.out
        simp [ByteArray.size]; omega
      have s0 : (⟨#[123]⟩ : ByteArray).size ≤ 1 := by decide
      have s2 : (⟨#[125]⟩ : ByteArray).size ≤ 1 := by decide
      have a1 := add_run 1 96 s0 s1 (by omega)
      have s3 := outL_size l 32 (by omega) HSM.out
      have a2 := add_run 97 1 s3 s2 (by omega)
      rw [join_text] at a1
      have HS := Lib.hid (outL_text l)
      clear s0 s1 s2 s3 hown ht
      generalize outL l = O at *
      go_wp2_with fail
      refine HJ.out.mono ?_
      rintro e w3 ⟨rfl, hb3⟩
      go_wp2
      go_ret
      exact ⟨ret_str HS.out, by rw [hN]; exact hw.out.2.1.trans (hb3.mono hw.out.2.2.1)⟩

end Go.Proofs.YtgeelnpdahlcpaaDoor
