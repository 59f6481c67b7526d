/-
  The law IecBack, walked: it returns true. Conditions: that the calls answer as is asked.
-/
import Derived.Test.YtkjijeogkemgoaaIcBytesW
namespace Go.Proofs.Ytkjijeogkemgoaa.Ic
open Go.RowKit
open Oct

/-- Two small numbers lie in a block of the law's own. -/
structure BoxU (B : Base) (N : Nat) (w0 w : World) (a b : Nat) : Prop where
  cur : Cur B N w0 w
  c0 : w.cell? ⟨N, 0, none⟩ = some (.int .u8 a)
  c1 : w.cell? ⟨N, 1, none⟩ = some (.int .u8 b)
theorem BoxU.next {B : Base} {N : Nat} {w0 w w' : World} {a b : Nat} (h : BoxU B N w0 w a b) (hb : Below w.heap.size w w') : BoxU B N w0 w' a b :=
  ⟨h.cur.next hb, kept1 h.c0 hb, kept1 h.c1 hb⟩
/-- A text's bytes in a block of the law's own. -/
structure Ba (B : Base) (N : Nat) (w0 w : World) (g : Nat) (l : List UInt8) : Prop where
  cur : Cur B N w0 w
  row : Row w g l
  gt : N ≤ g
  lt : g < w.heap.size
theorem Ba.next {B : Base} {N g : Nat} {w0 w w' : World} {l : List UInt8} (h : Ba B N w0 w g l) (hb : Below w.heap.size w w') : Ba B N w0 w' g l :=
  ⟨h.cur.next hb, h.row.kept hb, h.gt, Nat.lt_of_lt_of_le h.lt hb.size⟩
theorem Ba.drew {B : Base} {N g : Nat} {w0 w : World} {l : List UInt8} (h : Ba B N w0 w g l) : Ba B N w0 w.drew g l := h.next (Below.refl _ _).drew
theorem Cur.bytes {B : Base} {N : Nat} {w0 w : World} (h : Cur B N w0 w) (s : ByteArray) : Ba B N w0 (Lib.bytesWorld w 5 s) w.heap.size s.data.toList :=
  ⟨h.next (bytesWorld_below w s), bytesWorld_row w s, h.size, by rw [Lib.bytesWorld_size]; omega⟩
theorem Ba.put {B : Base} {N g : Nat} {w0 w w' : World} {l m : List UInt8} (h : Ba B N w0 w g l) (hr : Row w' g m) (ho : Only1 g w w') : Ba B N w0 w' g m :=
  ⟨h.cur.one ho h.gt, hr, h.gt, Nat.lt_of_lt_of_le h.lt ho.size⟩
/-- What a part of the bytes reads as. -/
theorem conv_part {w : World} {g : Nat} {l : List UInt8} (h : Row w g l) (o n cap : Nat) (hn : o + n ≤ l.length) : (convert 42 9 (.slice (some ⟨g, o, none⟩) n cap)).run Try.prog w = .ok (.string (S ((l.drop o).take n))) w := by
  have := run_convert_bytes_arg (P := Try.prog) w 42 5 Try.underlying42 Try.underlying5 g o n cap (((l.drop o).take n).map fun c => (c.toNat : Int)) (by simp; omega) (h.off o n hn) 9 Try.underlying9
  rw [this, strOfNums_S]
theorem baS {B : Base} {N g p q cap : Nat} {w0 w : World} {l : List UInt8} {A : Addr} (hA : (if cap = q then some (⟨g, 0, none⟩ : Addr) else some ⟨g, q, none⟩) = some A) (hp : p ≤ l.length) (hq : q ≤ l.length) (hc : l.length ≤ cap) (h : Ba B N w0 w g l) :
    (convert 42 9 (.slice (some ⟨g, 0, none⟩) p cap)).run Try.prog w = .ok (.string (S (l.take p))) w ∧ (convert 42 9 (.slice (some A) (l.length - q) (cap - q))).run Try.prog w = .ok (.string (S (l.drop q))) w ∧ Ba B N w0 w g l := by
  refine ⟨?_, ?_, h⟩
  · have := conv_part h.row 0 p cap (by omega)
    rwa [List.drop_zero] at this
  · by_cases he : cap = q
    · rw [if_pos he] at hA
      obtain rfl := Option.some.inj hA
      have hz : l.length - q = 0 := by omega
      have := conv_part h.row 0 0 (cap - q) (by omega)
      rw [hz, this, List.drop_of_length_le (show l.length ≤ q by omega)]
      rfl
    · rw [if_neg he] at hA
      obtain rfl := Option.some.inj hA
      have := conv_part h.row q (l.length - q) (cap - q) (by omega)
      rw [this, List.take_of_length_le (by simp)]
theorem back_get (l : List UInt8) (p : Nat) (k v : Int) (hk : szI k ≠ 0) (h : p + szI k ≤ l.length) : getI (S (putL l p k v)) p k = wrapI k v := by
  have hl : (l.take p).length = p := by rw [List.length_take]; omega
  have hc : cutL (putL l p k v) p (szI k) = be (nvI k v) (szI k) := by
    unfold cutL putL
    rw [List.append_assoc, List.drop_left' hl, List.take_left' (be_length _ _)]
  unfold getI
  rw [S_list, hc, num_be, Nat.mod_eq_of_lt (nv_bd k v hk), wrap_nv k v hk]
theorem back_take (l : List UInt8) (p : Nat) (k v : Int) (h : p ≤ l.length) : (putL l p k v).take p = l.take p := by
  unfold putL
  rw [List.append_assoc, List.take_left' (by rw [List.length_take]; omega)]
theorem back_drop (l : List UInt8) (p : Nat) (k v : Int) (h : p ≤ l.length) : (putL l p k v).drop (p + szI k) = l.drop (p + szI k) := by
  unfold putL
  rw [List.drop_left' (by rw [List.length_append, List.length_take, be_length]; omega)]

set_option maxRecDepth 100000 in
set_option maxHeartbeats 8000000 in
theorem back_walk {B : Base} (C : Code B) (s : ByteArray) (x y : Nat) (v : Int) (w : World) (hE : B.E w.heap.size w) (hx : x < 256) (hy : y < 256) (hv : I64 v) :
    Calls Try.prog 6 #[.string s, .agg #[.int .u8 x, .int .u8 y], .int .i64 v] w (Tells (.bool true) w) := by
  have CC := Lib.hid C
  have HV := Lib.hid hv
  have HC := Lib.hid (show BoxU B w.heap.size w (w.alloc (.cells #[.int .u8 x, .int .u8 y] 47)) x y from by
    have h := cell_two_new w (.int .u8 x) (.int .u8 y) 47
    exact ⟨(Cur.first hE).alloc _, h 0 _ rfl, h 1 _ rfl⟩)
  clear C hE hv
  obtain ⟨N, hN⟩ : ∃ N, w.heap.size = N := ⟨_, rfl⟩
  unfold Tells
  rw [hN] at HC ⊢
  by_cases hs : 8 ≤ s.size ∧ s.size ≤ 40
  · obtain ⟨hs1, hs2⟩ := hs
    have hl : s.data.toList.length = s.size := Array.length_toList
    obtain ⟨k, hk⟩ : ∃ k : Nat, 1 + y % 7 = k := ⟨_, rfl⟩
    have hk1 : (1 : Int) + (y : Int) % 7 = (k : Int) := by omega
    have hk2 : 1 ≤ k ∧ k ≤ 7 := by omega
    have hkI := Lib.hid (show I64 (k : Int) by unfold I64; omega)
    have hsz := sz_some k (by omega) (by omega)
    have hs4 := sz_le k
    go_enter Try.func6, Try.ntmps6
    go_wp2_with fail
    refine (awake_any CC.out _ HC.out.cur).mono ?_
    rintro e w1 ⟨rfl, hb1⟩
    have HC1 := Lib.hid (HC.out.next hb1)
    have c0 := HC1.out.c0
    have c1 := HC1.out.c1
    clear hb1 HC
    go_wp2_with fail
    refine (CC.out.size N k _ HC1.out.cur.e HC1.out.cur.size hkI.out).mono ?_
    rintro e w2 ⟨rfl, hb2⟩
    have HC2 := Lib.hid (HC1.out.next hb2)
    clear hb2 HC1 c0 c1
    have c0 := HC2.out.c0
    have hcv := Lib.run_convert_string_bytes (P := Try.prog) w2 9 42 5 s Try.underlying9 Try.underlying42 Try.underlying5
    have HX2 := Lib.hid (HC2.out.cur.bytes s)
    have HCap := Lib.hid (⟨grownCap_ge w2 s.size 0 5, grownCap_le_maxLen w2 s.size 0 5 (by unfold maxLen; omega)⟩ : _ ∧ _)
    have HTh := Lib.hid (fun p : Nat => fun (h : p + szI k ≤ s.size) => show thereI s.size p k = true from by
      unfold thereI
      rw [decide_eq_true_iff]
      omega)
    have HGet := Lib.hid (fun (p : Nat) (h : p + szI k ≤ s.size) => back_get s.data.toList p k v hsz (by omega))
    have HTk := Lib.hid (fun (p : Nat) (h : p ≤ s.size) => back_take s.data.toList p k v (by omega))
    have HDr := Lib.hid (fun (p : Nat) (h : p ≤ s.size) => back_drop s.data.toList p k v (by omega))
    have HLen := Lib.hid (fun (p : Nat) (h : p + szI k ≤ s.size) => put_length s.data.toList p k v (by omega))
    have HPut := Lib.hid (fun (p : Nat) (h : p + szI k ≤ s.size) => show putR s.data.toList p k v = putL s.data.toList p k v from by
      unfold putR
      rw [hl, HTh.out p h, if_pos rfl, Int.toNat_natCast])
    obtain ⟨n, hn⟩ : ∃ n, szI k = n := ⟨_, rfl⟩
    rw [hn] at hsz hs4 HTh HGet HDr HLen HPut
    rw [hn]
    generalize Lib.bytesWorld w2 5 s = W2 at *
    generalize grownCap w2 s.size 0 5 = cap at *
    generalize w2.heap.size = g at *
    have hd : (0 : Int) < (s.size : Int) - (n : Int) + 1 := by omega
    obtain ⟨p, hp⟩ : ∃ p : Nat, x % (s.size - n + 1) = p := ⟨_, rfl⟩
    have hpl : p + n ≤ s.size := by have := Nat.mod_lt x (show 0 < s.size - n + 1 by omega); omega
    have hp1 : ((x : Int)).tmod ((s.size : Int) - (n : Int) + 1) = (p : Int) := by
      rw [Int.tmod_eq_emod_of_nonneg (by omega), ← hp]
      have : ((s.size : Int) - (n : Int) + 1) = ((s.size - n + 1 : Nat) : Int) := by omega
      rw [this]
      rfl
    have hp2 : ((x : Int)) % ((s.size : Int) - (n : Int) + 1) = (p : Int) := by
      rw [← hp1, Int.tmod_eq_emod_of_nonneg (by omega)]
    have hn1 : ¬ ((n : Nat) : Int) < 1 := by omega
    clear hp
    go_wp2_with fail
    rw [← hl]
    refine (CC.out.put N g cap s.data.toList p k v W2 HX2.out.cur.e HX2.out.cur.size HX2.out.gt HX2.out.lt HX2.out.row (by omega) (by rw [hl]; exact HCap.out.1) HCap.out.2 (by unfold I64; omega) hkI.out HV.out).mono ?_
    rintro e w4 ⟨rfl, hr4, ho4⟩
    rw [HPut.out p hpl] at hr4
    have HX4 := Lib.hid (HX2.out.put hr4 ho4)
    rw [hl, HTh.out p hpl]
    have hml := HLen.out p hpl
    rw [hl] at hml
    have HGp := Lib.hid (HGet.out p hpl)
    have HT1 := Lib.hid (HTk.out p (by omega))
    have HD1 := Lib.hid (HDr.out p (by omega))
    have hTh := HTh.out p hpl
    clear hr4 ho4 HX2 hcv c0 HC2 HTh HGet HTk HDr HLen HPut
    have hLm := hml
    replace hml := Lib.hid hml
    generalize putL s.data.toList p k v = m at *
    have hkm := conv_row HX4.out.row cap
    rw [hLm] at hkm
    go_wp2_with fail
    have hSz : (S m).size = s.size := by rw [S_size, hLm]
    have hgr : gotR (S m) p k = wrapI k v := by
      unfold gotR
      rw [hSz, hTh, if_pos rfl, Int.toNat_natCast, HGp.out]
    refine (CC.out.get N (S m) p k w4 HX4.out.cur.e HX4.out.cur.size (by omega) (by unfold I64; omega) hkI.out).mono ?_
    rintro e w5 ⟨rfl, hb5⟩
    rw [hgr, hSz, hTh]
    have HX5 := Lib.hid (HX4.out.next hb5)
    clear hb5 HX4 hkm hgr hTh hSz
    -- the last region
    obtain ⟨A, hA⟩ : ∃ A : Addr, (if cap = p + n then some (⟨g, 0, none⟩ : Addr) else some ⟨g, p + n, none⟩) = some A := by
      by_cases he : cap = p + n
      · exact ⟨_, by rw [if_pos he]⟩
      · exact ⟨_, by rw [if_neg he]⟩
    have HBS := Lib.hid (fun (W : World) (h : Ba B N w W g m) => baS (p := p) (q := p + n) (cap := cap) hA (by omega) (by omega) (by rw [hLm]; exact HCap.out.1) h)
    rw [hLm] at HBS
    have hwI := Lib.hid (wrap_i64' k v)
    have HIs := wrap_is k v (by rw [hn]; exact hsz)
    obtain ⟨hcap1, hcap2⟩ := HCap.out
    have hq1 : ((S (m.take p)).toList == (s.extract 0 p).toList) = true := str_eq (by rw [HT1.out, extract_head])
    have hq2 : ((S (m.drop (p + n))).toList == (s.extract (p + n) s.size).toList) = true := str_eq (by rw [HD1.out, extract_tail])
    have h5 := HBS.out _ HX5.out
    have v1 := h5.1
    have v2 := h5.2.1
    have hx5 := h5.2.2
    have hpn : ((p : Int) + (n : Int)) = ((p + n : Nat) : Int) := by simp
    clear h5 HX5
    have hW := Lib.hid (fun W (h : Ba B N w W g m) => CC.out.wrap N k v W h.cur.e h.cur.size hkI.out HV.out)
    have hI := Lib.hid (fun W (h : Ba B N w W g m) => CC.out.is_ N k (wrapI k v) W h.cur.e h.cur.size hkI.out hwI.out)
    rw [HIs] at hI
    generalize m.take p = m1 at *
    generalize m.drop (p + n) = m2 at *
    generalize wrapI k v = wv at *
    have b1 : p ≤ cap := by omega
    have b2 : p + n ≤ cap := by omega
    have b3 : p ≤ s.size := by omega
    have b4 : (p : Int) + (n : Int) ≤ (s.size : Int) := by omega
    have b5 : (p : Int) + (n : Int) ≤ (cap : Int) := by omega
    have b6 : IntKind.i64.wrap ((p : Int) + (n : Int)) = (p : Int) + (n : Int) := by rw [IntKind.wrap_i64]; omega
    have b7 : ((p : Int) + (n : Int)).toNat = p + n := by omega
    have b8 : (0 : Int) ≤ (p : Int) + (n : Int) := by omega
    clear hk hcap1 hcap2 hp1 hp2 hd HIs HT1 HD1 hwI HGp hml hpn
    go_wp2_with fail
    go_region_held3 (fun W' => (convert 42 9 (.slice (some ⟨g, 0, none⟩) p cap)).run Try.prog W' = .ok (.string (S m1)) W' ∧ (convert 42 9 (.slice (some A) (s.size - (p + n)) (cap - (p + n)))).run Try.prog W' = .ok (.string (S m2)) W' ∧ Ba B N w W' g m)
      (first | exact HBS.out _ ‹Ba B N w _ g m› | exact HBS.out _ (Ba.drew ‹Ba B N w _ g m›))
      (first
        | (go_at_call 17; have hS := ‹_ ∧ _ ∧ Ba _ _ _ _ _ _›; (with_reducible refine (hW.out _ hS.2.2).mono ?_); rintro e w6 ⟨rfl, hb6⟩; have hx6 := hS.2.2.next hb6; have hT := HBS.out _ hx6; have y0 := hT.1; have y1 := hT.2.1; clear hT)
        | (go_at_call 15; have hS := ‹_ ∧ _ ∧ Ba _ _ _ _ _ _›; (with_reducible refine (hI.out _ hS.2.2).mono ?_); rintro e w6 ⟨rfl, hb6⟩; have hx6 := hS.2.2.next hb6; have hT := HBS.out _ hx6; have y0 := hT.1; have y1 := hT.2.1; clear hT))
    all_goals
      have hbl := Lib.hid hx6.cur.below
      clear hx6 hS hb6 hx5 v1 v2 y0 y1
      go_wp2
      go_ret
      exact ⟨rfl, hbl.out⟩
  · have hs' : s.size < 8 ∨ 40 < s.size := by omega
    clear hs
    rcases hs' with h8 | h8
    · have h9 : (s.size : Int) < 8 := by omega
      go_enter Try.func6, Try.ntmps6
      go_wp2_with fail
      refine (awake_any CC.out _ HC.out.cur).mono ?_
      rintro e w1 ⟨rfl, hb1⟩
      have HC1 := Lib.hid (HC.out.next hb1)
      clear hb1 HC
      go_wp2
      go_ret
      exact ⟨rfl, HC1.out.cur.below⟩
    · have h9 : (40 : Int) < s.size := by omega
      have h10 : ¬ (s.size : Int) < 8 := by omega
      go_enter Try.func6, Try.ntmps6
      go_wp2_with fail
      refine (awake_any CC.out _ HC.out.cur).mono ?_
      rintro e w1 ⟨rfl, hb1⟩
      have HC1 := Lib.hid (HC.out.next hb1)
      clear hb1 HC
      go_wp2
      go_ret
      exact ⟨rfl, HC1.out.cur.below⟩

end Go.Proofs.Ytkjijeogkemgoaa.Ic
