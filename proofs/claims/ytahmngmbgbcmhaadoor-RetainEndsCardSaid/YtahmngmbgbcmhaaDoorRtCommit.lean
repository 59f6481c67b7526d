/-
  The reference's Commit, walked. Conditions: texts of 148 to 400 bytes, records that may be.
-/
import Derived.Test.YtahmngmbgbcmhaaDoorRtTwo
namespace Go.Proofs.YtahmngmbgbcmhaaDoor.Ret
open Go.RowKit
open Oct

/-- Where a commit goes. -/
def goes (l : List UInt8) : Nat := if newI l = 0 then 74 else 0

/-- What a commit to a place leaves: the bytes behind it, and whether all were written. -/
def doneL (l : List UInt8) (k : Nat) (sl : List UInt8) (most : Int) : List UInt8 := if 0 ≤ most ∧ most < 75 then cur l k sl most.toNat else cur l k sl 75
def doneB (most : Int) : Bool := !decide (0 ≤ most ∧ most < 75)
def CommitsAt (l : List UInt8) (k : Nat) (sl : List UInt8) (most : Int) (w : World) (e : Ending) (w' : World) : Prop :=
  e = .returned (.tuple #[.string (S (doneL l k sl most)), .bool (doneB most)]) ∧ Below w.heap.size w w'

/-- What lies there when the rows begin. -/
theorem start_commit {w W0 w1 : World} {s : ByteArray} {R : Rc} {N q i : Nat} {d : ByteArray} (hz : RecAt W0 N q i d) (hA : Below w.heap.size w W0) (hb1 : Below W0.heap.size W0 w1) :
    let W1 := w1.alloc (Obj.cells #[Value.int IntKind.u32 R.q, Value.int IntKind.u16 R.i, Value.string R.d] 39)
    let W2 := Lib.bytesWorld W1 5 s
    RecAt W2 N q i d ∧ Below w.heap.size w W2 ∧ Sto.Row W2 (w1.heap.size + 1) s.data.toList ∧ w1.heap.size + 1 < W2.heap.size ∧ N < w1.heap.size ∧ w.heap.size ≤ w1.heap.size ∧ W2.heap.size = w1.heap.size + 2 := by
  intro W1 W2
  have hal := (Below.refl w1.heap.size w1).alloc (Nat.le_refl _) (Obj.cells #[Value.int IntKind.u32 R.q, Value.int IntKind.u16 R.i, Value.string R.d] 39)
  have hW1 : W1.heap.size = w1.heap.size + 1 := by simp [W1]
  have hbw := Sto.bytesWorld_below W1 s
  have hz1 := hz.below hb1
  have hsz : W2.heap.size = w1.heap.size + 2 := by show (Lib.bytesWorld W1 5 s).heap.size = _; rw [Lib.bytesWorld_size, hW1]
  have hA1 := hA.trans (hb1.mono hA.size)
  have hrow := Sto.bytesWorld_row W1 s
  rw [hW1] at hrow
  exact ⟨(hz1.below hal).below hbw, (hA1.trans (hal.mono hA1.size)).trans (hbw.mono (by rw [hW1]; exact Nat.le_succ_of_le hA1.size)), hrow, by omega, hz1.lt, hA1.size, hsz⟩

/-- What stands while the rows are made: the boxed record, the bytes, the two rows. -/
structure Mid (w0 : World) (N gb N2 : Nat) (l : List UInt8) (q i : Nat) (d : ByteArray) (W : World) (pv bv : Value) (ps : List Nat) (bs : List UInt8) : Prop where
  box : RecAt W N q i d
  bel : Below w0.heap.size w0 W
  row : Sto.Row W gb l
  two : Two N2 W pv bv ps bs
  n1 : N < gb
  n2 : gb < N2
  size : N2 ≤ W.heap.size
  base : w0.heap.size ≤ N

theorem Mid.start {w W : World} {gb N q i : Nat} {d : ByteArray} {l : List UInt8} (hr : RecAt W N q i d) (hb : Below w.heap.size w W) (hrow : Sto.Row W gb l) (h1 : gb < W.heap.size) (h2 : N < gb) (h3 : w.heap.size ≤ N) :
    Mid w N gb W.heap.size l q i d W (.slice none 0 0) (.slice none 0 0) [] [] :=
  ⟨hr, hb, hrow, ⟨World.ownsRow_nil _ _ _ _, World.ownsRow_nil _ _ _ _⟩, h2, h1, Nat.le_refl _, h3⟩

section
variable {w0 W w' : World} {N gb N2 q i : Nat} {d : ByteArray} {l : List UInt8} {pv bv pv' bv' : Value} {ps : List Nat} {bs : List UInt8}
theorem Mid.below (h : Mid w0 N gb N2 l q i d W pv bv ps bs) (hb : Below W.heap.size W w') : Mid w0 N gb N2 l q i d w' pv bv ps bs :=
  ⟨h.box.below hb, h.bel.trans (hb.mono (by have := h.size; have := h.n1; have := h.n2; have := h.base; omega)), h.row.at (hb.block gb (by have := h.size; have := h.n2; omega)), h.two.below hb, h.n1, h.n2, Nat.le_trans h.size hb.size, h.base⟩
theorem Mid.alloc (h : Mid w0 N gb N2 l q i d W pv bv ps bs) (o : Obj) : Mid w0 N gb N2 l q i d (W.alloc o) pv bv ps bs := h.below ((Below.refl _ _).alloc (Nat.le_refl _) o)
theorem Mid.nums {n : Nat} (h : Mid w0 N gb N2 l q i d W pv bv ps bs) (ho : w'.ownsRow N2 3 1 pv' (ps.length + 1) (ints ps ++ ints [n])) (hg : W.grownBy w' pv.ownBlock) : Mid w0 N gb N2 l q i d w' pv' bv (ps ++ [n]) bs := by
  have hn := h.n1
  have hn2 := h.n2
  exact ⟨h.box.of (old_grown h.two.p hg N (by omega) h.size), h.bel.trans (below_grown h.two.p hg (by have := h.base; omega) h.size), h.row.at (old_grown h.two.p hg gb hn2 h.size), h.two.nums ho hg, hn, hn2, Nat.le_trans h.size hg.size, h.base⟩
theorem Mid.byts {c : UInt8} (h : Mid w0 N gb N2 l q i d W pv bv ps bs) (ho : w'.ownsRow N2 5 1 bv' (bs.length + 1) (Sto.vals bs ++ Sto.vals [c])) (hg : W.grownBy w' bv.ownBlock) : Mid w0 N gb N2 l q i d w' pv bv' ps (bs ++ [c]) := by
  have hn := h.n1
  have hn2 := h.n2
  exact ⟨h.box.of (old_grown h.two.b hg N (by omega) h.size), h.bel.trans (below_grown h.two.b hg (by have := h.base; omega) h.size), h.row.at (old_grown h.two.b hg gb hn2 h.size), h.two.byts ho hg, hn, hn2, Nat.le_trans h.size hg.size, h.base⟩
end

set_option maxRecDepth 100000 in
set_option maxHeartbeats 8000000 in
theorem rcommit_any (s : ByteArray) (r : Rc) (most : Int) (w : World) (hs : 148 ≤ s.size) (hsm : s.size ≤ 1000) (hr : r.Ok) (hm0 : -9223372036854775808 ≤ most) (hm1 : most ≤ 9223372036854775807) :
    Calls Tryd.prog 25 #[.string s, .agg #[.int .u32 r.q, .int .u16 r.i, .string r.d], .int .i64 most] w (CommitsAt s.data.toList (goes s.data.toList) (slot r) most w) := by
  have HN := Lib.hid (fun w => rnewest_any s w hs)
  have HSL := run_rslot r hr
  have hsl : (slot r).length = 73 := slot_length hr.d
  have hll : s.data.toList.length = s.size := Sto.size_list s
  have hk : goes s.data.toList ≤ 74 := by unfold goes; split <;> omega
  have hg : newI s.data.toList = 0 ∧ goes s.data.toList = 74 ∨ newI s.data.toList ≠ 0 ∧ goes s.data.toList = 0 := by
    unfold goes
    by_cases h : newI s.data.toList = 0
    · exact .inl ⟨h, if_pos h⟩
    · exact .inr ⟨h, if_neg h⟩
  obtain ⟨q, i, d⟩ := r
  generalize goes s.data.toList = k at *
  replace HN : Hid (∀ w : World, Calls Tryd.prog 26 #[.string s] w fun e w' => e = .returned (.tuple #[.int .i64 (newI s.data.toList), .agg #[.int .u32 ((newR s.data.toList).q : Int), .int .u16 ((newR s.data.toList).i : Int), .string (newR s.data.toList).d]]) ∧ Below w.heap.size w w') := HN
  generalize newI s.data.toList = I at *
  generalize newR s.data.toList = R at *
  generalize slot ⟨q, i, d⟩ = sl at *
  have hconv := fun w : World => Lib.run_convert_string_bytes (P := Tryd.prog) w 9 44 5 s Tryd.underlying9 Tryd.underlying44 Tryd.underlying5
  have hA := (Below.refl w.heap.size w).alloc (Nat.le_refl _) (Obj.cells #[Value.int IntKind.u32 q, Value.int IntKind.u16 i, Value.string d] 39)
  have hz : RecAt _ w.heap.size q i d := RecAt.new w q i d 39
  have HZ := Lib.hid (⟨hA, hz⟩ : _ ∧ _)
  have HS := Lib.hid hsl
  have HL := Lib.hid hll
  clear hA hz hsl hll
  rcases hg with ⟨rfl, rfl⟩ | ⟨hI, rfl⟩
  · go_enter Tryd.func25, Tryd.ntmps25
    go_wp2_with fail
    obtain ⟨hA, hz⟩ := HZ.out
    clear HZ
    generalize w.alloc (Obj.cells #[Value.int IntKind.u32 q, Value.int IntKind.u16 i, Value.string d] 39) = W0 at *
    refine (HN.out _).mono ?_
    rintro e w1 ⟨rfl, hb1⟩
    have HW := Lib.hid (start_commit (s := s) (R := R) hz hA hb1)
    clear hb1 hz hA
    obtain ⟨i3, hi3, hi30, hi31, hi32⟩ := info_parts info3
    obtain ⟨i5, hi5, hi50, hi51, hi52⟩ := info_parts Sto.info5
    have I3 := Lib.hid (⟨hi3, hi30, hi31, hi32⟩ : _ ∧ _ ∧ _ ∧ _)
    have I5 := Lib.hid (⟨hi5, hi50, hi51, hi52⟩ : _ ∧ _ ∧ _ ∧ _)
    clear hi3 hi30 hi31 hi32 hi5 hi50 hi51 hi52
    go_wp2_with (at_builtin; refine wpList_append_own _ rfl (.tmp 26) (.tmp 28) 67 rfl (Lib.bytesWorld (w1.alloc (Obj.cells #[Value.int IntKind.u32 R.q, Value.int IntKind.u16 R.i, Value.string R.d] 39)) 5 s).heap.size 3 i3 (.int .i64 0) 1 8 Tryd.underlying67 I3.out.1 I3.out.2.1 I3.out.2.2.1 I3.out.2.2.2 rfl (by decide) _ 0 [] rfl (World.ownsRow_nil _ _ _ _) ⟨_, 0, none⟩ 1 1 (ints [74]) rfl rfl (laid_one _ _ _) (ints_one _) (by unfold maxLen; omega) (by omega) (by simp) ?_)
    intro pv w3 ho3 hg3 hi3
    clear hi3 hconv
    obtain ⟨hrec, hbel, hrow, hlt1, hlt2, hlt3, hsz⟩ := HW.out
    clear HW
    have m0 := Mid.start hrec hbel hrow hlt1 (by omega) (Nat.le_refl _)
    have m1 := (m0.alloc (Obj.cells #[Value.int IntKind.i64 74] 3)).nums ho3 hg3
    clear ho3 hg3 m0 hrec hbel hrow hlt1 hsz
    generalize (Lib.bytesWorld (w1.alloc (Obj.cells #[Value.int IntKind.u32 R.q, Value.int IntKind.u16 R.i, Value.string R.d] 39)) 5 s).heap.size = N2 at *
    generalize hNN : w.heap.size = N at *
    have HNN := Lib.hid hNN
    clear hNN hlt2 hlt3
    generalize w1.heap.size + 1 = gb at *
    have hn3 := m1.size
    have M1 := Lib.hid m1
    clear m1
    go_wp2_with (at_builtin; refine wpList_append_own _ rfl (.tmp 30) (.tmp 31) 44 rfl N2 5 i5 (.int .u8 0) 1 1 Tryd.underlying44 I5.out.1 I5.out.2.1 I5.out.2.2.1 I5.out.2.2.2 rfl (by decide) _ 0 [] rfl (World.ownsRow_nil _ _ _ _) ⟨_, 0, none⟩ 1 1 (Sto.vals [0]) rfl rfl (laid_one _ _ _) (vals_one _) (by unfold maxLen; omega) (by omega) (by simp; omega) ?_)
    intro bv w4 ho4 hg4 hi4
    clear hi4
    have m2 := (M1.out.alloc (Obj.cells #[Value.int IntKind.u8 0] 5)).byts ho4 hg4
    have c0 := m2.box.c0
    have c1 := m2.box.c1
    have c2 := m2.box.c2
    have M2 := Lib.hid m2
    clear ho4 hg4 m2 M1 hn3
    go_wp2_with fail
    refine (HSL.out _).mono ?_
    rintro e w5 ⟨rfl, hb5⟩
    have M3 := Lib.hid (M2.out.below hb5)
    clear M2 hb5 c0 c1 c2
    generalize hT : S sl = T at *
    have HT : Hid (T.data.toList = sl) := by rw [← hT]; exact Lib.hid rfl
    have hTs : T.size = 73 := by rw [← Sto.size_list, HT.out]; exact HS.out
    clear hT
    go_wp2_with fail
    go_loopw [15, 12, 13] (fun ii pp bb wr => ∃ j : Nat, j ≤ 73 ∧ ii = .int .i64 j ∧ Mid w N gb N2 s.data.toList q i d wr pp bb (plc 74 j) (byt sl j)) (fun ii _ _ _ => 73 - (intOf ii).toNat)
    case atStart => exact ⟨0, Nat.zero_le _, rfl, M3.out⟩
    case round =>
      obtain ⟨j, hj, rfl, hm⟩ := hrel
      have hms := hm.size
      have M := Lib.hid hm
      clear hm M3
      by_cases hlt : j < 73
      · have e1 : ([Value.int .i64 (75 + (j : Int))] : List Value) = ints [74 + 1 + j] := by simp [ints] <;> omega
        have e2 : ([Value.int .u8 (T[j].toNat : Int)] : List Value) = Sto.vals [sl.getD j 0] := by rw [← HT.out, at_list T j (by omega)]; rfl
        have E1 := Lib.hid e1
        have E2 := Lib.hid e2
        clear e1 e2
        have hlP := plc_length 74 j
        have hlB := byt_length sl j (by rw [HS.out]; omega)
        have HLP := Lib.hid hlP
        have HLB := Lib.hid hlB
        clear hlP hlB
        go_wp2_with (at_builtin; refine wpList_append_own _ rfl (.tmp 41) (.tmp 46) 67 rfl N2 3 i3 (.int .i64 0) 1 8 Tryd.underlying67 I3.out.1 I3.out.2.1 I3.out.2.2.1 I3.out.2.2.2 rfl (by decide) _ (plc 74 j).length (ints (plc 74 j)) rfl (M.out.two.p.alloc _) ⟨_, 0, none⟩ 1 1 [Value.int .i64 (75 + (j : Int))] rfl rfl (laid_one _ _ _) (by intro u hu; simp at hu; subst hu; rfl) (by rw [HLP.out]; unfold maxLen; omega) (by rw [HLP.out]; omega) (by simp; omega) ?_)
        intro pv' w6 ho6 hg6 hi6
        clear hi6
        rw [E1.out] at ho6
        have m4 := (M.out.alloc (Obj.cells #[Value.int IntKind.i64 (75 + (j : Int))] 3)).nums ho6 hg6
        rw [← plc_succ] at m4
        have hn6 := m4.size
        have M4 := Lib.hid m4
        clear ho6 hg6 m4 M
        go_wp2_with (at_builtin; refine wpList_append_own _ rfl (.tmp 48) (.tmp 52) 44 rfl N2 5 i5 (.int .u8 0) 1 1 Tryd.underlying44 I5.out.1 I5.out.2.1 I5.out.2.2.1 I5.out.2.2.2 rfl (by decide) _ (byt sl j).length (Sto.vals (byt sl j)) rfl (M4.out.two.b.alloc _) ⟨_, 0, none⟩ 1 1 [Value.int .u8 (T[j].toNat : Int)] rfl rfl (laid_one _ _ _) (by intro u hu; simp at hu; subst hu; rfl) (by rw [HLB.out]; unfold maxLen; omega) (by rw [HLB.out]; omega) (by simp; omega) ?_)
        intro bv' w7 ho7 hg7 hi7
        clear hi7
        rw [E2.out] at ho7
        have m5 := (M4.out.alloc (Obj.cells #[Value.int IntKind.u8 (T[j].toNat : Int)] 5)).byts ho7 hg7
        rw [← byt_succ sl j (by rw [HS.out]; omega)] at m5
        have M5 := Lib.hid m5
        clear ho7 hg7 m5 M4 hn6
        go_wp2
        go_roundw
        case rel => exact ⟨j + 1, by omega, by go_num, M5.out⟩
        case measure => simp [intOf]; omega
      · obtain rfl : j = 73 := by omega
        have HLP := Lib.hid (plc_length 74 73)
        have HLB := Lib.hid (byt_length sl 73 (by rw [HS.out]; omega))
        go_wp2_with (at_builtin; refine wpList_append_own _ rfl (.tmp 54) (.tmp 56) 67 rfl N2 3 i3 (.int .i64 0) 1 8 Tryd.underlying67 I3.out.1 I3.out.2.1 I3.out.2.2.1 I3.out.2.2.2 rfl (by decide) _ (plc 74 73).length (ints (plc 74 73)) rfl (M.out.two.p.alloc _) ⟨_, 0, none⟩ 1 1 (ints [74]) rfl rfl (laid_one _ _ _) (ints_one _) (by rw [HLP.out]; unfold maxLen; omega) (by rw [HLP.out]; omega) (by simp; omega) ?_)
        intro pv' w6 ho6 hg6 hi6
        clear hi6
        have m4 := (M.out.alloc (Obj.cells #[Value.int IntKind.i64 74] 3)).nums ho6 hg6
        have hn6 := m4.size
        have M4 := Lib.hid m4
        clear ho6 hg6 m4 M
        go_wp2_with (at_builtin; refine wpList_append_own _ rfl (.tmp 58) (.tmp 59) 44 rfl N2 5 i5 (.int .u8 0) 1 1 Tryd.underlying44 I5.out.1 I5.out.2.1 I5.out.2.2.1 I5.out.2.2.2 rfl (by decide) _ (byt sl 73).length (Sto.vals (byt sl 73)) rfl (M4.out.two.b.alloc _) ⟨_, 0, none⟩ 1 1 (Sto.vals [165]) rfl rfl (laid_one _ _ _) (vals_one _) (by rw [HLB.out]; unfold maxLen; omega) (by rw [HLB.out]; omega) (by simp; omega) ?_)
        intro bv' w7 ho7 hg7 hi7
        clear hi7
        have m5 := (M4.out.alloc (Obj.cells #[Value.int IntKind.u8 165] 5)).byts ho7 hg7
        have HLT : Hid (Late w gb N2 s.data.toList w7 pv' bv' (plcs 74) (byts sl)) := ⟨m5.bel, m5.row, m5.two, m5.n2, by have := m5.base; have := m5.n1; omega⟩
        have hlp := plcs_length 74
        have hlb := byts_length HS.out
        obtain ⟨gp, cp, rfl, -, -⟩ := own_shape HLT.out.two.p (by rw [hlp]; omega)
        obtain ⟨gq, cq, rfl, -, -⟩ := own_shape HLT.out.two.b (by rw [hlb]; omega)
        rw [hlp, hlb] at HLT ⊢
        have HB := Lib.hid hlb
        have HP := Lib.hid hlp
        clear ho7 hg7 m5 M4 hn6 HLP HLB hlp hlb I3 I5 HSL HN hTs HT
        go_wp2_with fail
        generalize grownCap (w1.alloc (Obj.cells #[Value.int IntKind.u32 R.q, Value.int IntKind.u16 R.i, Value.string R.d] 39)) s.size 0 5 = cb at *
        go_loopw [16] (fun ii wr => ∃ j : Nat, j ≤ 75 ∧ ii = .int .i64 j ∧ Hid (∀ t : Nat, t < j → (t : Int) ≠ most) ∧ Late w gb N2 (cur s.data.toList 74 sl j) wr (.slice (some ⟨gp, 0, none⟩) 75 cp) (.slice (some ⟨gq, 0, none⟩) 75 cq) (plcs 74) (byts sl)) (fun ii _ => 75 - (intOf ii).toNat)
        case atStart => exact ⟨0, Nat.zero_le _, rfl, fun t ht => by omega, HLT.out⟩
        case round =>
          obtain ⟨j, hj, rfl, hmost, hlate⟩ := hrel
          have hlen := cur_length s.data.toList 74 sl j
          have hcv := Sto.row_text hlate.row 0 s.size cb (by rw [hlen, HL.out]; omega) 44 Tryd.underlying44
          rw [List.drop_zero, List.take_of_length_le (by rw [hlen, HL.out]; exact Nat.le_refl _)] at hcv
          replace hcv : (convert 44 9 (.slice (some ⟨gb, 0, none⟩) s.size cb)).run Tryd.prog wr = .ok (.string (S (cur s.data.toList 74 sl j))) wr := hcv
          have HL2 := Lib.hid hlen
          clear hlen
          by_cases hlt : j < 75
          · by_cases hjm : (j : Int) = most
            · have HR : Hid (doneL s.data.toList 74 sl most = cur s.data.toList 74 sl j ∧ doneB most = false) := by
                unfold doneL doneB
                rw [← hjm, if_pos (by omega), Int.toNat_natCast]
                exact Lib.hid ⟨rfl, by simp; omega⟩
              have HBE := Lib.hid hlate.bel
              clear hlate hmost
              go_wp2
              go_ret2
              exact ⟨by rw [HR.out.1, HR.out.2]; rfl, HBE.out⟩
            · have hmost2 : Hid (∀ t : Nat, t < j + 1 → (t : Int) ≠ most) := by
                intro t ht
                by_cases h : t = j
                · rw [h]; exact hjm
                · exact hmost.out t (by omega)
              have hPj := plcs_le 74 j
              have hx := nums_at (by have := hlate.two.p; rw [HP.out] at this; exact this) j hlt
              have hy := byts_at (by have := hlate.two.b; rw [HB.out] at this; exact this) j hlt
              have hp2 : (plcs 74).getD j 0 < (cur s.data.toList 74 sl j).length := by rw [HL2.out, HL.out]; omega
              obtain ⟨hz, hf⟩ := hlate.row _ hp2
              have HN2 := Lib.hid (hlate.drew.set ((plcs 74).getD j 0) ((byts sl).getD j 0))
              have HCS : Hid (cur s.data.toList 74 sl (j + 1) = (cur s.data.toList 74 sl j).set ((plcs 74).getD j 0) ((byts sl).getD j 0)) := Lib.hid rfl
              generalize (cur s.data.toList 74 sl j).getD ((plcs 74).getD j 0) 0 = old at *
              generalize (cur s.data.toList 74 sl j).set ((plcs 74).getD j 0) ((byts sl).getD j 0) = nl at *
              generalize (plcs 74).getD j 0 = P at *
              generalize (byts sl).getD j 0 = V at *
              have hPs : (P : Int) < s.size := by omega
              have hPs2 : P < s.size := by omega
              clear hlate hmost hcv hp2
              go_wp2_with fail
              go_region
              all_goals
                go_wp2
                go_roundw
                case rel => exact ⟨j + 1, by omega, by go_num, hmost2, by rw [HCS.out]; exact HN2.out⟩
                case measure => simp [intOf]; omega
          · obtain rfl : j = 75 := by omega
            have HR : Hid (doneL s.data.toList 74 sl most = cur s.data.toList 74 sl 75 ∧ doneB most = true) := by
              have hno : ¬ (0 ≤ most ∧ most < 75) := fun h => hmost.out most.toNat (by omega) (by omega)
              unfold doneL doneB
              rw [if_neg hno]
              exact Lib.hid ⟨rfl, by simp [hno]⟩
            have HBE := Lib.hid hlate.bel
            clear hlate hmost
            go_wp2
            go_ret2
            exact ⟨by rw [HR.out.1, HR.out.2]; rfl, HBE.out⟩
  · have hI2 : (I == 0) = false := by simp [hI]
    go_enter Tryd.func25, Tryd.ntmps25
    go_wp2_with fail
    obtain ⟨hA, hz⟩ := HZ.out
    clear HZ
    generalize w.alloc (Obj.cells #[Value.int IntKind.u32 q, Value.int IntKind.u16 i, Value.string d] 39) = W0 at *
    refine (HN.out _).mono ?_
    rintro e w1 ⟨rfl, hb1⟩
    have HW := Lib.hid (start_commit (s := s) (R := R) hz hA hb1)
    clear hb1 hz hA
    obtain ⟨i3, hi3, hi30, hi31, hi32⟩ := info_parts info3
    obtain ⟨i5, hi5, hi50, hi51, hi52⟩ := info_parts Sto.info5
    have I3 := Lib.hid (⟨hi3, hi30, hi31, hi32⟩ : _ ∧ _ ∧ _ ∧ _)
    have I5 := Lib.hid (⟨hi5, hi50, hi51, hi52⟩ : _ ∧ _ ∧ _ ∧ _)
    clear hi3 hi30 hi31 hi32 hi5 hi50 hi51 hi52
    go_wp2_with (at_builtin; refine wpList_append_own _ rfl (.tmp 26) (.tmp 28) 67 rfl (Lib.bytesWorld (w1.alloc (Obj.cells #[Value.int IntKind.u32 R.q, Value.int IntKind.u16 R.i, Value.string R.d] 39)) 5 s).heap.size 3 i3 (.int .i64 0) 1 8 Tryd.underlying67 I3.out.1 I3.out.2.1 I3.out.2.2.1 I3.out.2.2.2 rfl (by decide) _ 0 [] rfl (World.ownsRow_nil _ _ _ _) ⟨_, 0, none⟩ 1 1 (ints [0]) rfl rfl (laid_one _ _ _) (ints_one _) (by unfold maxLen; omega) (by omega) (by simp) ?_)
    intro pv w3 ho3 hg3 hi3
    clear hi3 hconv
    obtain ⟨hrec, hbel, hrow, hlt1, hlt2, hlt3, hsz⟩ := HW.out
    clear HW
    have m0 := Mid.start hrec hbel hrow hlt1 (by omega) (Nat.le_refl _)
    have m1 := (m0.alloc (Obj.cells #[Value.int IntKind.i64 0] 3)).nums ho3 hg3
    clear ho3 hg3 m0 hrec hbel hrow hlt1 hsz
    generalize (Lib.bytesWorld (w1.alloc (Obj.cells #[Value.int IntKind.u32 R.q, Value.int IntKind.u16 R.i, Value.string R.d] 39)) 5 s).heap.size = N2 at *
    generalize hNN : w.heap.size = N at *
    have HNN := Lib.hid hNN
    clear hNN hlt2 hlt3
    generalize w1.heap.size + 1 = gb at *
    have hn3 := m1.size
    have M1 := Lib.hid m1
    clear m1
    go_wp2_with (at_builtin; refine wpList_append_own _ rfl (.tmp 30) (.tmp 31) 44 rfl N2 5 i5 (.int .u8 0) 1 1 Tryd.underlying44 I5.out.1 I5.out.2.1 I5.out.2.2.1 I5.out.2.2.2 rfl (by decide) _ 0 [] rfl (World.ownsRow_nil _ _ _ _) ⟨_, 0, none⟩ 1 1 (Sto.vals [0]) rfl rfl (laid_one _ _ _) (vals_one _) (by unfold maxLen; omega) (by omega) (by simp; omega) ?_)
    intro bv w4 ho4 hg4 hi4
    clear hi4
    have m2 := (M1.out.alloc (Obj.cells #[Value.int IntKind.u8 0] 5)).byts ho4 hg4
    have c0 := m2.box.c0
    have c1 := m2.box.c1
    have c2 := m2.box.c2
    have M2 := Lib.hid m2
    clear ho4 hg4 m2 M1 hn3
    go_wp2_with fail
    refine (HSL.out _).mono ?_
    rintro e w5 ⟨rfl, hb5⟩
    have M3 := Lib.hid (M2.out.below hb5)
    clear M2 hb5 c0 c1 c2
    generalize hT : S sl = T at *
    have HT : Hid (T.data.toList = sl) := by rw [← hT]; exact Lib.hid rfl
    have hTs : T.size = 73 := by rw [← Sto.size_list, HT.out]; exact HS.out
    clear hT
    go_wp2_with fail
    go_loopw [15, 12, 13] (fun ii pp bb wr => ∃ j : Nat, j ≤ 73 ∧ ii = .int .i64 j ∧ Mid w N gb N2 s.data.toList q i d wr pp bb (plc 0 j) (byt sl j)) (fun ii _ _ _ => 73 - (intOf ii).toNat)
    case atStart => exact ⟨0, Nat.zero_le _, rfl, M3.out⟩
    case round =>
      obtain ⟨j, hj, rfl, hm⟩ := hrel
      have hms := hm.size
      have M := Lib.hid hm
      clear hm M3
      by_cases hlt : j < 73
      · have e1 : ([Value.int .i64 (1 + (j : Int))] : List Value) = ints [0 + 1 + j] := by simp [ints] <;> omega
        have e2 : ([Value.int .u8 (T[j].toNat : Int)] : List Value) = Sto.vals [sl.getD j 0] := by rw [← HT.out, at_list T j (by omega)]; rfl
        have E1 := Lib.hid e1
        have E2 := Lib.hid e2
        clear e1 e2
        have hlP := plc_length 0 j
        have hlB := byt_length sl j (by rw [HS.out]; omega)
        have HLP := Lib.hid hlP
        have HLB := Lib.hid hlB
        clear hlP hlB
        go_wp2_with (at_builtin; refine wpList_append_own _ rfl (.tmp 41) (.tmp 46) 67 rfl N2 3 i3 (.int .i64 0) 1 8 Tryd.underlying67 I3.out.1 I3.out.2.1 I3.out.2.2.1 I3.out.2.2.2 rfl (by decide) _ (plc 0 j).length (ints (plc 0 j)) rfl (M.out.two.p.alloc _) ⟨_, 0, none⟩ 1 1 [Value.int .i64 (1 + (j : Int))] rfl rfl (laid_one _ _ _) (by intro u hu; simp at hu; subst hu; rfl) (by rw [HLP.out]; unfold maxLen; omega) (by rw [HLP.out]; omega) (by simp; omega) ?_)
        intro pv' w6 ho6 hg6 hi6
        clear hi6
        rw [E1.out] at ho6
        have m4 := (M.out.alloc (Obj.cells #[Value.int IntKind.i64 (1 + (j : Int))] 3)).nums ho6 hg6
        rw [← plc_succ] at m4
        have hn6 := m4.size
        have M4 := Lib.hid m4
        clear ho6 hg6 m4 M
        go_wp2_with (at_builtin; refine wpList_append_own _ rfl (.tmp 48) (.tmp 52) 44 rfl N2 5 i5 (.int .u8 0) 1 1 Tryd.underlying44 I5.out.1 I5.out.2.1 I5.out.2.2.1 I5.out.2.2.2 rfl (by decide) _ (byt sl j).length (Sto.vals (byt sl j)) rfl (M4.out.two.b.alloc _) ⟨_, 0, none⟩ 1 1 [Value.int .u8 (T[j].toNat : Int)] rfl rfl (laid_one _ _ _) (by intro u hu; simp at hu; subst hu; rfl) (by rw [HLB.out]; unfold maxLen; omega) (by rw [HLB.out]; omega) (by simp; omega) ?_)
        intro bv' w7 ho7 hg7 hi7
        clear hi7
        rw [E2.out] at ho7
        have m5 := (M4.out.alloc (Obj.cells #[Value.int IntKind.u8 (T[j].toNat : Int)] 5)).byts ho7 hg7
        rw [← byt_succ sl j (by rw [HS.out]; omega)] at m5
        have M5 := Lib.hid m5
        clear ho7 hg7 m5 M4 hn6
        go_wp2
        go_roundw
        case rel => exact ⟨j + 1, by omega, by go_num, M5.out⟩
        case measure => simp [intOf]; omega
      · obtain rfl : j = 73 := by omega
        have HLP := Lib.hid (plc_length 0 73)
        have HLB := Lib.hid (byt_length sl 73 (by rw [HS.out]; omega))
        go_wp2_with (at_builtin; refine wpList_append_own _ rfl (.tmp 54) (.tmp 56) 67 rfl N2 3 i3 (.int .i64 0) 1 8 Tryd.underlying67 I3.out.1 I3.out.2.1 I3.out.2.2.1 I3.out.2.2.2 rfl (by decide) _ (plc 0 73).length (ints (plc 0 73)) rfl (M.out.two.p.alloc _) ⟨_, 0, none⟩ 1 1 (ints [0]) rfl rfl (laid_one _ _ _) (ints_one _) (by rw [HLP.out]; unfold maxLen; omega) (by rw [HLP.out]; omega) (by simp; omega) ?_)
        intro pv' w6 ho6 hg6 hi6
        clear hi6
        have m4 := (M.out.alloc (Obj.cells #[Value.int IntKind.i64 0] 3)).nums ho6 hg6
        have hn6 := m4.size
        have M4 := Lib.hid m4
        clear ho6 hg6 m4 M
        go_wp2_with (at_builtin; refine wpList_append_own _ rfl (.tmp 58) (.tmp 59) 44 rfl N2 5 i5 (.int .u8 0) 1 1 Tryd.underlying44 I5.out.1 I5.out.2.1 I5.out.2.2.1 I5.out.2.2.2 rfl (by decide) _ (byt sl 73).length (Sto.vals (byt sl 73)) rfl (M4.out.two.b.alloc _) ⟨_, 0, none⟩ 1 1 (Sto.vals [165]) rfl rfl (laid_one _ _ _) (vals_one _) (by rw [HLB.out]; unfold maxLen; omega) (by rw [HLB.out]; omega) (by simp; omega) ?_)
        intro bv' w7 ho7 hg7 hi7
        clear hi7
        have m5 := (M4.out.alloc (Obj.cells #[Value.int IntKind.u8 165] 5)).byts ho7 hg7
        have HLT : Hid (Late w gb N2 s.data.toList w7 pv' bv' (plcs 0) (byts sl)) := ⟨m5.bel, m5.row, m5.two, m5.n2, by have := m5.base; have := m5.n1; omega⟩
        have hlp := plcs_length 0
        have hlb := byts_length HS.out
        obtain ⟨gp, cp, rfl, -, -⟩ := own_shape HLT.out.two.p (by rw [hlp]; omega)
        obtain ⟨gq, cq, rfl, -, -⟩ := own_shape HLT.out.two.b (by rw [hlb]; omega)
        rw [hlp, hlb] at HLT ⊢
        have HB := Lib.hid hlb
        have HP := Lib.hid hlp
        clear ho7 hg7 m5 M4 hn6 HLP HLB hlp hlb I3 I5 HSL HN hTs HT
        go_wp2_with fail
        generalize grownCap (w1.alloc (Obj.cells #[Value.int IntKind.u32 R.q, Value.int IntKind.u16 R.i, Value.string R.d] 39)) s.size 0 5 = cb at *
        go_loopw [16] (fun ii wr => ∃ j : Nat, j ≤ 75 ∧ ii = .int .i64 j ∧ Hid (∀ t : Nat, t < j → (t : Int) ≠ most) ∧ Late w gb N2 (cur s.data.toList 0 sl j) wr (.slice (some ⟨gp, 0, none⟩) 75 cp) (.slice (some ⟨gq, 0, none⟩) 75 cq) (plcs 0) (byts sl)) (fun ii _ => 75 - (intOf ii).toNat)
        case atStart => exact ⟨0, Nat.zero_le _, rfl, fun t ht => by omega, HLT.out⟩
        case round =>
          obtain ⟨j, hj, rfl, hmost, hlate⟩ := hrel
          have hlen := cur_length s.data.toList 0 sl j
          have hcv := Sto.row_text hlate.row 0 s.size cb (by rw [hlen, HL.out]; omega) 44 Tryd.underlying44
          rw [List.drop_zero, List.take_of_length_le (by rw [hlen, HL.out]; exact Nat.le_refl _)] at hcv
          replace hcv : (convert 44 9 (.slice (some ⟨gb, 0, none⟩) s.size cb)).run Tryd.prog wr = .ok (.string (S (cur s.data.toList 0 sl j))) wr := hcv
          have HL2 := Lib.hid hlen
          clear hlen
          by_cases hlt : j < 75
          · by_cases hjm : (j : Int) = most
            · have HR : Hid (doneL s.data.toList 0 sl most = cur s.data.toList 0 sl j ∧ doneB most = false) := by
                unfold doneL doneB
                rw [← hjm, if_pos (by omega), Int.toNat_natCast]
                exact Lib.hid ⟨rfl, by simp; omega⟩
              have HBE := Lib.hid hlate.bel
              clear hlate hmost
              go_wp2
              go_ret2
              exact ⟨by rw [HR.out.1, HR.out.2]; rfl, HBE.out⟩
            · have hmost2 : Hid (∀ t : Nat, t < j + 1 → (t : Int) ≠ most) := by
                intro t ht
                by_cases h : t = j
                · rw [h]; exact hjm
                · exact hmost.out t (by omega)
              have hPj := plcs_le 0 j
              have hx := nums_at (by have := hlate.two.p; rw [HP.out] at this; exact this) j hlt
              have hy := byts_at (by have := hlate.two.b; rw [HB.out] at this; exact this) j hlt
              have hp2 : (plcs 0).getD j 0 < (cur s.data.toList 0 sl j).length := by rw [HL2.out, HL.out]; omega
              obtain ⟨hz, hf⟩ := hlate.row _ hp2
              have HN2 := Lib.hid (hlate.drew.set ((plcs 0).getD j 0) ((byts sl).getD j 0))
              have HCS : Hid (cur s.data.toList 0 sl (j + 1) = (cur s.data.toList 0 sl j).set ((plcs 0).getD j 0) ((byts sl).getD j 0)) := Lib.hid rfl
              generalize (cur s.data.toList 0 sl j).getD ((plcs 0).getD j 0) 0 = old at *
              generalize (cur s.data.toList 0 sl j).set ((plcs 0).getD j 0) ((byts sl).getD j 0) = nl at *
              generalize (plcs 0).getD j 0 = P at *
              generalize (byts sl).getD j 0 = V at *
              have hPs : (P : Int) < s.size := by omega
              have hPs2 : P < s.size := by omega
              clear hlate hmost hcv hp2
              go_wp2_with fail
              go_region
              all_goals
                go_wp2
                go_roundw
                case rel => exact ⟨j + 1, by omega, by go_num, hmost2, by rw [HCS.out]; exact HN2.out⟩
                case measure => simp [intOf]; omega
          · obtain rfl : j = 75 := by omega
            have HR : Hid (doneL s.data.toList 0 sl most = cur s.data.toList 0 sl 75 ∧ doneB most = true) := by
              have hno : ¬ (0 ≤ most ∧ most < 75) := fun h => hmost.out most.toNat (by omega) (by omega)
              unfold doneL doneB
              rw [if_neg hno]
              exact Lib.hid ⟨rfl, by simp [hno]⟩
            have HBE := Lib.hid hlate.bel
            clear hlate hmost
            go_wp2
            go_ret2
            exact ⟨by rw [HR.out.1, HR.out.2]; rfl, HBE.out⟩

end Go.Proofs.YtahmngmbgbcmhaaDoor.Ret
