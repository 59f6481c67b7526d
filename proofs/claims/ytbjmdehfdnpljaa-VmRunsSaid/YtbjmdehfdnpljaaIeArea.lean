/-
  The landed code's fits, Get, Put, walked. Conditions: areas of up to 1000 bytes.
-/
import Derived.Test.YtbjmdehfdnpljaaIeBase
import Derived.RegionTactic
import Derived.Test.YtbjmdehfdnpljaaIeBase
namespace Go.Proofs.Ytbjmdehfdnpljaa.Ic
open Go.RowKit
open Oct

set_option maxRecDepth 100000 in
set_option maxHeartbeats 4000000 in
theorem cFits_any (n : Nat) (at_ k : Int) (w : World) (hn : n ≤ 1000) (h1 : -9223372036854775808 ≤ at_) (h2 : at_ ≤ 9223372036854775807) : Calls Try.prog 94 #[.int .i64 n, .int .i64 at_, .int .i64 k] w (Tells (.bool (thereI n at_ k)) w) := by
  have HK := Lib.hid (fun W => cKind_any k W)
  have HS := Lib.hid (fun W => cSize_any k W)
  have h4 := sz_le k
  have HV := Lib.hid (show thereI n at_ k = (decide (szI k ≠ 0) && (decide (0 ≤ at_) && decide (at_ ≤ (n : Int) - (szI k : Int)))) from by
    rw [Bool.eq_iff_iff]
    simp only [thereI, Bool.and_eq_true, decide_eq_true_iff]
    omega)
  rw [HV.out]
  clear HV
  generalize szI k = m at *
  cases hk : decide (m ≠ 0)
  · rw [hk] at HK
    rw [Bool.false_and]
    clear hk
    go_enter Try.func94, Try.ntmps94
    go_wp2_with fail
    refine (HK.out _).mono ?_
    rintro e w1 ⟨rfl, hb1⟩
    go_wp2
    go_ret
    exact ⟨rfl, hb1⟩
  · rw [hk] at HK
    rw [Bool.true_and]
    clear hk
    by_cases hp : 0 ≤ at_
    · obtain ⟨a, rfl⟩ : ∃ a : Nat, at_ = a := ⟨at_.toNat, by omega⟩
      have e1 : IntKind.i64.wrap ((n : Int) - (m : Int)) = (n : Int) - (m : Int) := by rw [IntKind.wrap_i64]; omega
      rw [decide_eq_true hp, Bool.true_and]
      go_enter Try.func94, Try.ntmps94
      go_wp2_with fail
      refine (HK.out _).mono ?_
      rintro e w1 ⟨rfl, hb1⟩
      replace hb1 := Lib.hid hb1
      go_wp2_with fail
      refine (HS.out _).mono ?_
      rintro e w2 ⟨rfl, hb2⟩
      replace hb2 := Lib.hid (hb1.out.trans (hb2.mono hb1.out.size))
      clear hb1
      go_wp2
      go_ret
      exact ⟨rfl, hb2.out⟩
    · rw [decide_eq_false hp, Bool.false_and]
      replace hp : at_ < 0 := by omega
      go_enter Try.func94, Try.ntmps94
      go_wp2_with fail
      refine (HK.out _).mono ?_
      rintro e w1 ⟨rfl, hb1⟩
      go_wp2
      go_ret
      exact ⟨rfl, hb1⟩

theorem or_byte (x c : Nat) (hx : x < 16777216) (hc : c < 256) : bits .or .i64 ((x : Int) * 256) (c : Int) = ((x * 256 + c : Nat) : Int) := by
  rw [show (x : Int) * 256 = ((x * 256 : Nat) : Int) by simp]
  have h64 : (2 : Nat) ^ 32 ≤ 2 ^ IntKind.i64.bits := by decide
  have ha' : (x * 256) % 2 ^ IntKind.i64.bits = x * 256 := Nat.mod_eq_of_lt (by omega)
  have hb' : c % 2 ^ IntKind.i64.bits = c := Nat.mod_eq_of_lt (by omega)
  simp only [bits, BitVec.ofInt_natCast, BitVec.toNat_or, BitVec.toNat_ofNat, ha', hb']
  have e : x * 256 ||| c = x * 256 + c := by
    have := Nat.shiftLeft_add_eq_or_of_lt (i := 8) (b := c) (by omega) x
    rw [Nat.shiftLeft_eq] at this
    rw [← this]
  rw [e]
  exact IntWalk.i64_in _ (by omega)
set_option maxRecDepth 100000 in
set_option maxHeartbeats 4000000 in
theorem cGet_any (s : ByteArray) (at_ k : Int) (w : World) (hs : s.size ≤ 1000) (h1 : -9223372036854775808 ≤ at_) (h2 : at_ ≤ 9223372036854775807) : Calls Try.prog 78 #[.string s, .int .i64 at_, .int .i64 k] w (Tells (.tuple #[.int .i64 (gotR s at_ k), .bool (thereI s.size at_ k)]) w) := by
  have HF := Lib.hid (fun W => cFits_any s.size at_ k W hs h1 h2)
  cases ht : thereI s.size at_ k
  · rw [show gotR s at_ k = 0 by unfold gotR; rw [if_neg (by rw [ht]; simp)]]
    rw [ht] at HF
    clear ht
    go_enter Try.func78, Try.ntmps78
    go_wp2_with fail
    refine (HF.out _).mono ?_
    rintro e w1 ⟨rfl, hb1⟩
    go_wp2
    go_ret2
    exact ⟨rfl, hb1⟩
  · rw [show gotR s at_ k = getI s at_.toNat k by unfold gotR; rw [if_pos ht]]
    rw [ht] at HF
    obtain ⟨a, rfl, h, hk0⟩ := there_pos ht
    rw [Int.toNat_natCast]
    clear ht hk0
    have h4 := sz_le k
    have HS := fun W => cSize_any k W
    have hg : getI s a k = wrapI k (num (cutL s.data.toList a (szI k)) : Nat) := rfl
    rw [hg]
    obtain ⟨n, hn⟩ : ∃ n, szI k = n := ⟨_, rfl⟩
    rw [hn] at h4 h HS ⊢
    clear hg hn
    replace HS := Lib.hid HS
    have hl : s.data.toList.length = s.size := Array.length_toList
    have HW := Lib.hid (fun W => cWrap_any k (num (cutL s.data.toList a n) : Nat) W (by have := cut_num s.data.toList a n (by omega) h4; omega) (by have := cut_num s.data.toList a n (by omega) h4; omega))
    have HN := Lib.hid (fun j (hj : j < n) => show num (cutL s.data.toList a j) < 16777216 from by
      have h1 := num_lt (cutL s.data.toList a j)
      rw [cut_length _ _ _ (by omega)] at h1
      have h2 : 256 ^ j ≤ 256 ^ 3 := Nat.pow_le_pow_right (by decide) (by omega)
      omega)
    have HM := Lib.hid (fun j (hj : j < n) => show num (cutL s.data.toList a (j + 1)) = num (cutL s.data.toList a j) * 256 + (s.data.toList[a + j]'(by omega)).toNat from by rw [cut_more _ _ _ (by omega), num_snoc])
    go_enter Try.func78, Try.ntmps78
    go_wp2_with fail
    refine (HF.out _).mono ?_
    rintro e w1 ⟨rfl, hb1⟩
    replace hb1 := Lib.hid hb1
    go_wp2_with fail
    refine (HS.out _).mono ?_
    rintro e w2 ⟨rfl, hb2⟩
    replace hb2 := Lib.hid (hb1.out.trans (hb2.mono hb1.out.size))
    clear hb1
    go_wp2
    go_loopw [8, 18] (fun v i wr => ∃ j : Nat, j ≤ n ∧ i = .int .i64 j ∧ v = .int .i64 (num (cutL s.data.toList a j) : Nat) ∧ Hid (Below w.heap.size w wr)) (fun _ i _ => n - (intOf i).toNat)
    case atStart => exact ⟨0, Nat.zero_le _, rfl, by rw [cut_zero]; rfl, hb2⟩
    case round =>
      obtain ⟨j, hj, rfl, rfl, hb⟩ := hrel
      by_cases hlt : j < n
      · have hI : (j : Int) < (n : Int) := by omega
        have hn := HN.out j hlt
        have hm := Lib.hid (HM.out j hlt)
        have hx : a + j < s.size := by omega
        generalize num (cutL s.data.toList a j) = x at *
        have hc := (s[a + j]).toNat_lt
        have ho := or_byte x (s[a + j]).toNat hn hc
        have HO := Lib.hid (show x * 256 + (s[a + j]).toNat = num (cutL s.data.toList a (j + 1)) from by rw [hm.out, at_list s _ hx])
        clear hm
        go_wp2
        go_roundw
        case rel =>
          refine ⟨j + 1, by omega, by go_num, ?_, hb⟩
          rw [← HO.out]; simp
        case measure => simp [intOf]; omega
      · obtain rfl : j = n := by omega
        go_wp2_with fail
        refine (HW.out _).mono ?_
        rintro e w3 ⟨rfl, hb3⟩
        have hb4 := Lib.hid (hb.out.trans (hb3.mono hb.out.size))
        clear hb3
        go_wp2
        go_ret2
        exact ⟨rfl, hb4.out⟩

theorem pow_pw (n : Nat) (h : n ≤ 4) : pwI n = ((256 ^ n : Nat) : Int) := by
  match n, h with
  | 0, _ => decide
  | 1, _ => decide
  | 2, _ => decide
  | 3, _ => decide
  | 4, _ => decide
theorem nv_int (k v : Int) (hk : szI k ≠ 0) : ((nvI k v : Nat) : Int) = if wrapI k v < 0 then wrapI k v + manyI k else wrapI k v := by
  have hi := wrap_is k v hk
  unfold isI at hi
  rw [decide_eq_true_iff] at hi
  have hl := least_many k
  have hl2 := least_le k
  unfold nvI
  rw [Int.toNat_of_nonneg]
  split <;> omega
theorem wrap_neg {k v : Int} (hk : szI k ≠ 0) (h : wrapI k v < 0) : k ≠ 1 := by
  rintro rfl
  unfold wrapI at h
  rw [if_neg hk, if_pos rfl] at h
  split at h <;> omega
/-- The bytes of what a number is brought into, one by one, lowest first. -/
theorem byte_same (k v : Int) (j : Nat) (hk : szI k ≠ 0) (hj : j < szI k) : (wrapI k v / ((256 ^ j : Nat) : Int)) % 256 = ((UInt8.ofNat (nvI k v / 256 ^ j)).toNat : Int) := by
  have hy := nv_int k v hk
  have h4 := sz_le k
  have e1 : ((UInt8.ofNat (nvI k v / 256 ^ j)).toNat : Int) = ((nvI k v : Int) / ((256 ^ j : Nat) : Int)) % 256 := by simp
  rw [e1, hy]
  by_cases hx : wrapI k v < 0
  · rw [if_pos hx]
    have hk1 := wrap_neg hk hx
    have hm : manyI k = ((256 ^ j : Nat) : Int) * (((256 ^ (szI k - j - 1) : Nat) : Int) * 256) := by
      rw [← pw_many k hk1, pow_pw _ h4]
      have : 256 ^ szI k = 256 ^ j * (256 ^ (szI k - j - 1) * 256) := by
        rw [← Nat.pow_succ, ← Nat.pow_add]; congr 1; omega
      rw [this]; simp
    have hp : ((256 ^ j : Nat) : Int) ≠ 0 := by
      have := Nat.pow_pos (n := j) (show 0 < 256 by decide)
      omega
    rw [hm, Int.add_mul_ediv_left _ _ hp, Int.add_mul_emod_self_right]
  · rw [if_neg hx]
theorem rest_bd (x : Int) (j : Nat) (h1 : -2147483648 ≤ x) (h2 : x ≤ 4294967296) : -2147483648 ≤ x / ((256 ^ j : Nat) : Int) ∧ x / ((256 ^ j : Nat) : Int) ≤ 4294967296 := by
  have hp := Nat.pow_pos (n := j) (show 0 < 256 by decide)
  generalize 256 ^ j = d at *
  have hd : (0 : Int) < (d : Int) := by omega
  constructor
  · by_cases hx : 0 ≤ x
    · have := Int.ediv_nonneg hx (by omega : 0 ≤ (d : Int)); omega
    · have : x ≤ x / (d : Int) := by
        apply Int.le_ediv_of_mul_le hd
        have := Int.mul_le_mul_of_nonpos_left (show x ≤ 0 by omega) (show (1 : Int) ≤ d by omega)
        omega
      omega
  · by_cases hx : 0 ≤ x
    · have := Int.ediv_le_self (d : Int) hx; omega
    · have := Int.ediv_lt_of_lt_mul hd (show x < 1 * (d : Int) by omega); omega
theorem rest_step (x : Int) (j : Nat) : x / ((256 ^ j : Nat) : Int) / 256 = x / ((256 ^ (j + 1) : Nat) : Int) := by
  rw [Int.ediv_ediv_of_nonneg (Int.natCast_nonneg _)]
  congr 1
/-- An area with the last j of n bytes from a on written. -/
def partL (l : List UInt8) (a n y j : Nat) : List UInt8 := l.take (a + (n - j)) ++ be y j ++ l.drop (a + n)
theorem part_zero (l : List UInt8) (a n y : Nat) : partL l a n y 0 = l := by simp [partL, be]
theorem part_length (l : List UInt8) (a n y j : Nat) (h : a + n ≤ l.length) (hj : j ≤ n) : (partL l a n y j).length = l.length := by
  simp [partL, be_length]; omega
theorem part_all (l : List UInt8) (a : Nat) (k v : Int) : partL l a (szI k) (nvI k v) (szI k) = putL l a k v := by simp [partL, putL]
theorem part_step (l : List UInt8) (a n y j : Nat) (h : a + n ≤ l.length) (hj : j < n) : (partL l a n y j).set (a + (n - (j + 1))) (UInt8.ofNat (y / 256 ^ j)) = partL l a n y (j + 1) := by
  unfold partL
  have e : be y (j + 1) = UInt8.ofNat (y / 256 ^ j) :: be y j := rfl
  rw [e]
  have hp : a + (n - j) = (a + (n - (j + 1))) + 1 := by omega
  have ht : l.take (a + (n - j)) = l.take (a + (n - (j + 1))) ++ [l[a + (n - (j + 1))]'(by omega)] := by
    rw [hp, List.take_succ_eq_append_getElem (by omega)]
  have hl : (l.take (a + (n - (j + 1)))).length = a + (n - (j + 1)) := by rw [List.length_take]; omega
  rw [ht, List.append_assoc, List.append_assoc, List.set_append_right _ _ (by omega), hl, Nat.sub_self]
  simp
theorem Row.put {w : World} {g : Nat} {l : List UInt8} (h : Row w g l) (i : Nat) (hi : i < l.length) (c : UInt8) :
    Row (w.setCell ⟨g, i, none⟩ (.int .u8 (c.toNat : Int))) g (l.set i c) := by
  intro j hj
  rw [List.length_set] at hj
  obtain ⟨hc, hz⟩ := h j hj
  refine ⟨?_, (World.frozen?_setCell _ _ _ _).trans hz⟩
  by_cases hij : i = j
  · subst hij
    rw [World.cell?_setCell_same _ _ _ hc]
    simp [List.getD_eq_getElem?_getD, hi]
  · rw [World.cell?_setCell_other _ _ _ _ (by intro e; injection e with _ e; exact hij e), hc]
    simp [List.getD_eq_getElem?_getD, hij]
theorem Row.drew {w : World} {g : Nat} {l : List UInt8} (h : Row w g l) : Row w.drew g l := h
theorem Only1.refl (g : Nat) (w : World) : Only1 g w w := ⟨rfl, rfl, rfl, Nat.le_refl _, fun _ _ _ => rfl⟩
theorem Only1.trans {g : Nat} {w w' w'' : World} (h : Only1 g w w') (h' : Only1 g w' w'') : Only1 g w w'' :=
  ⟨h'.os.trans h.os, h'.tape.trans h.tape, h'.output.trans h.output, Nat.le_trans h.size h'.size, fun k hk hg => (h'.block k (Nat.lt_of_lt_of_le hk h.size) hg).trans (h.block k hk hg)⟩
theorem Only1.drew {g : Nat} {w w' : World} (h : Only1 g w w') : Only1 g w w'.drew := ⟨h.os, h.tape, h.output, h.size, h.block⟩
theorem Only1.of {g : Nat} {w w' : World} (h : Below w.heap.size w w') : Only1 g w w' := ⟨h.os, h.tape, h.output, h.size, fun k hk _ => h.block k hk⟩
theorem Only1.set {g i : Nat} {w w' : World} (h : Only1 g w w') (v : Value) : Only1 g w (w'.setCell ⟨g, i, none⟩ v) := by
  refine ⟨h.os, h.tape, h.output, ?_, fun k hk hg => ?_⟩
  · have : (w'.setCell ⟨g, i, none⟩ v).heap.size = w'.heap.size := by simp [World.setCell]
    rw [this]; exact h.size
  · have : (w'.setCell ⟨g, i, none⟩ v).heap[k]? = w'.heap[k]? := by
      simp [World.setCell, Array.getElem?_modify, Ne.symm hg]
    rw [this]; exact h.block k hk hg

set_option maxRecDepth 100000 in
set_option maxHeartbeats 4000000 in
theorem cPut_any (g cap : Nat) (l : List UInt8) (at_ k v : Int) (w : World) (hr : Row w g l) (hl : l.length ≤ 1000)
    (h1 : -9223372036854775808 ≤ at_) (h2 : at_ ≤ 9223372036854775807) (h3 : -9223372036854775808 ≤ v) (h4 : v ≤ 9223372036854775807) :
    Calls Try.prog 80 #[.slice (some ⟨g, 0, none⟩) l.length cap, .int .i64 at_, .int .i64 k, .int .i64 v] w fun e w' => e = .returned (.bool (thereI l.length at_ k)) ∧ Row w' g (putR l at_ k v) ∧ Only1 g w w' := by
  have HF := Lib.hid (fun W => cFits_any l.length at_ k W hl h1 h2)
  cases ht : thereI l.length at_ k
  · rw [show putR l at_ k v = l by unfold putR; rw [if_neg (by rw [ht]; simp)]]
    rw [ht] at HF
    replace hr := Lib.hid hr
    clear ht
    go_enter Try.func80, Try.ntmps80
    go_wp2_with fail
    refine (HF.out _).mono ?_
    rintro e w1 ⟨rfl, hb1⟩
    replace hb1 := Lib.hid hb1
    go_wp2
    go_ret
    exact ⟨rfl, hr.out.kept hb1.out, Only1.of hb1.out⟩
  · rw [show putR l at_ k v = putL l at_.toNat k v by unfold putR; rw [if_pos ht]]
    rw [ht] at HF
    obtain ⟨a, rfl, h, hk0⟩ := there_pos ht
    rw [Int.toNat_natCast, ← part_all]
    clear ht
    have h5 := sz_le k
    have HS := fun W => cSize_any k W
    have HW := Lib.hid (fun W => cWrap_any k v W h3 h4)
    have HB := fun j (hj : j < szI k) => byte_same k v j hk0 hj
    have hbd := wrap_bd k v
    generalize wrapI k v = x at *
    generalize nvI k v = y at *
    generalize szI k = n at *
    replace HS := Lib.hid HS
    replace HB := Lib.hid HB
    have HX := Lib.hid (fun j => rest_bd x j hbd.1 hbd.2)
    have hn0 : 1 ≤ n := by omega
    have hx0 : x / ((256 ^ 0 : Nat) : Int) = x := by simp
    replace hr := Lib.hid hr
    clear hk0 h3 h4 hbd
    go_enter Try.func80, Try.ntmps80
    go_wp2_with fail
    refine (HF.out _).mono ?_
    rintro e w1 ⟨rfl, hb1⟩
    replace hb1 := Lib.hid hb1
    go_wp2_with fail
    refine (HW.out _).mono ?_
    rintro e w2 ⟨rfl, hb2⟩
    replace hb2 := Lib.hid (hb1.out.trans (hb2.mono hb1.out.size))
    clear hb1
    go_wp2_with fail
    refine (HS.out _).mono ?_
    rintro e w3 ⟨rfl, hb3⟩
    replace hb3 := Lib.hid (hb2.out.trans (hb3.mono hb2.out.size))
    clear hb2
    have HR := Lib.hid (hr.out.kept hb3.out)
    have HO := Lib.hid (Only1.of (g := g) hb3.out)
    clear hb3
    go_wp2
    go_loopw [9, 10] (fun r i wr => ∃ m : Nat, m ≤ n ∧ i = .int .i64 ((m : Int) - 1) ∧ r = .int .i64 (x / ((256 ^ (n - m) : Nat) : Int)) ∧ Hid (Only1 g w wr) ∧ Hid (Row wr g (partL l a n y (n - m)))) (fun _ i _ => (intOf i + 1).toNat)
    case atStart => exact ⟨n, Nat.le_refl _, rfl, by rw [Nat.sub_self, hx0], HO, by rw [Nat.sub_self, part_zero]; exact HR⟩
    case round =>
      obtain ⟨m, hm, rfl, rfl, ho, hrow⟩ := hrel
      by_cases hlt : 1 ≤ m
      · obtain ⟨q, rfl⟩ : ∃ q, m = q + 1 := ⟨m - 1, by omega⟩
        have hlen : a + q < (partL l a n y (n - (q + 1))).length := by rw [part_length _ _ _ _ _ h (by omega)]; omega
        have hst := part_step l a n y (n - (q + 1)) h (by omega)
        rw [show n - (n - (q + 1) + 1) = q by omega, show n - (q + 1) + 1 = n - q by omega] at hst
        have hc := (hrow.out (a + q) hlen).1
        have hz := (hrow.out (a + q) hlen).2
        have HR2 := hrow.out.put (a + q) hlen (UInt8.ofNat (y / 256 ^ (n - (q + 1))))
        rw [hst] at HR2
        replace HR2 := Lib.hid HR2
        have HU := Lib.hid (HB.out (n - (q + 1)) (by omega))
        have HD := rest_step x (n - (q + 1))
        rw [show n - (q + 1) + 1 = n - q by omega] at HD
        replace HD := Lib.hid HD
        have hxb := HX.out (n - (q + 1))
        have HO2 := Lib.hid (fun v => (ho.out.set (i := a + q) v))
        have hal : a + q < l.length := by omega
        generalize (partL l a n y (n - (q + 1))).getD (a + q) 0 = c at *
        generalize partL l a n y (n - (q + 1)) = L at *
        generalize x / ((256 ^ (n - (q + 1)) : Nat) : Int) = r at *
        clear hlen hst
        go_wp2
        all_goals
          go_roundw
          case rel => exact ⟨q, by omega, by go_num, by rw [← HD.out], Lib.hid (by rw [HU.out]; exact HO2.out _), Lib.hid (by rw [HU.out]; exact HR2.out)⟩
          case measure => simp [intOf] <;> omega
      · obtain rfl : m = 0 := by omega
        go_wp2
        go_ret
        exact ⟨rfl, hrow.out, ho.out⟩

end Go.Proofs.Ytbjmdehfdnpljaa.Ic
