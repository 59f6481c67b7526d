/-
  The law IlTwins, walked: it returns true. Conditions: that the calls answer as is asked.
-/
import Derived.Test.YtpnjhodpbjhmcaaDoorIlPrintW
namespace Go.Proofs.YtpnjhodpbjhmcaaDoor.Il
open Go.RowKit
open Go.Proofs.YtpnjhodpbjhmcaaDoor.Ic

theorem add_bound {M : Nat} {st : Asm} {ws : List Bs} {ln : Nat} {s : Asm} (h : addB st ws ln = .ok s) (hc : ∀ c ∈ st.code, c.2.2 ≤ M) (hl : ln ≤ M) : ∀ c ∈ s.code, c.2.2 ≤ M := by
  unfold addB at h
  split at h
  · cases h
  · split at h
    · cases h
    · split at h
      · cases h
      · injection h with h
        subst h
        intro c hcm
        rcases List.mem_append.1 hcm with hcm | hcm
        · exact hc c hcm
        · simp at hcm; subst hcm; exact hl
theorem line_bound {M : Nat} {st : Asm} {ws : List Bs} {ln : Nat} {s : Asm} (h : lineB st ws ln = .ok s) (hc : ∀ c ∈ st.code, c.2.2 ≤ M) (hl : ln ≤ M) : ∀ c ∈ s.code, c.2.2 ≤ M := by
  cases ws with
  | nil => injection h with h; subst h; exact hc
  | cons a rest =>
    unfold lineB at h
    dsimp only at h
    split at h
    · split at h
      · split at h
        · split at h
          · split at h
            · split at h
              · cases h
              · injection h with h; subst h; exact hc
            · cases h
          · cases h
        · cases h
      · cases h
    · split at h
      · split at h
        · split at h
          · cases h
          · split at h
            · injection h with h; subst h; exact hc
            · exact add_bound h hc hl
        · cases h
      · exact add_bound h hc hl
theorem lines_bound {M : Nat} : ∀ (ls : List Bs) (k : Nat) (st : Asm), (∀ c ∈ st.code, c.2.2 ≤ M) → k + ls.length ≤ M + 1 → (∀ e, linesB st (numbered k ls) = .error e → e.2 ≤ M) ∧ (∀ s, linesB st (numbered k ls) = .ok s → ∀ c ∈ s.code, c.2.2 ≤ M)
  | [], k, st, hc, _ => ⟨(fun e h => by cases h), (fun s h => by injection h with h; subst h; exact hc)⟩
  | l :: ls, k, st, hc, hk => by
    rw [List.length_cons] at hk
    rw [numbered, linesB]
    cases hl : lineB st (wordsB l) k with
    | error e => exact ⟨(fun e2 h => by injection h with h; subst h; show k ≤ M; omega), (fun s h => by cases h)⟩
    | ok s => exact lines_bound ls (k + 1) s (line_bound hl hc (by omega)) (by omega)
theorem jumps_bound {M : Nat} (labels : List (Bs × Nat)) : ∀ (cs : List (In × Bs × Nat)), (∀ c ∈ cs, c.2.2 ≤ M) → ∀ e, jumpsB labels cs = .error e → e.2 ≤ M
  | [], _, e, h => by cases h
  | (i, lab, ln) :: cs, hc, e, h => by
    have ih := jumps_bound labels cs (fun c hcm => hc c (by simp [hcm]))
    unfold jumpsB at h
    split at h
    · cases hj : jumpsB labels cs with
      | ok l => rw [hj] at h; cases h
      | error e2 => rw [hj] at h; injection h with h; subst h; exact ih _ hj
    · split at h
      · injection h with h; subst h; exact hc (i, lab, ln) (by simp)
      · cases hj : jumpsB labels cs with
        | ok l => rw [hj] at h; cases h
        | error e2 => rw [hj] at h; injection h with h; subst h; exact ih _ hj
theorem line_le (t : Bs) : lineOf (asmB t) ≤ t.length + 1 := by
  have hl := split_len 10 t
  unfold asmB
  split
  · simp [lineOf]
  · unfold asmL
    obtain ⟨h1, h2⟩ := lines_bound (M := t.length + 1) (splitB 10 t) 1 ⟨[], [], []⟩ (by simp) (by omega)
    cases h : linesB ⟨[], [], []⟩ (numbered 1 (splitB 10 t)) with
    | error e => exact h1 e h
    | ok s =>
      dsimp only
      cases hj : jumpsB s.labels s.code with
      | ok l => simp [lineOf]
      | error e => exact jumps_bound s.labels s.code (h2 s h) e hj

theorem dbl_len (s : Bs) : (dbl s).length ≤ 2 * s.length := by
  induction s with
  | nil => simp [dbl]
  | cons x s ih =>
    rw [dbl_cons, List.length_append, List.length_cons]
    split <;> (simp; omega)
theorem dbl_app (a b : Bs) : dbl (a ++ b) = dbl a ++ dbl b := by unfold dbl; rw [List.flatMap_append]
theorem dbl_step {x : Bs} {k : Nat} {c : UInt8} (h : x[k]? = some c) : dbl (x.take (k + 1)) = dbl (x.take k) ++ (if c = 32 then [32, 32] else [c]) := by
  rw [List.take_add_one, h, dbl_app]
  congr 1
  show dbl [c] = _
  rw [dbl_cons]
  simp [dbl]
theorem end_app (a b : List Bs) : endL (a ++ b) = endL a ++ endL b := by unfold endL; rw [List.flatMap_append]
theorem twins_app (a b : List Bs) : twinLines (a ++ b) = twinLines a ++ twinLines b := by unfold twinLines; rw [List.flatMap_append]
theorem twin_len (M : Nat) : ∀ (ls : List Bs), (∀ x ∈ ls, x.length ≤ M) → (endL (twinLines ls)).length ≤ ls.length * (2 * M + 13)
  | [], _ => by simp [twinLines, endL]
  | x :: ls, h => by
    have ih := twin_len M ls (fun y hy => h y (by simp [hy]))
    have hx := h x (by simp)
    have hd := dbl_len x
    have e : twinLines (x :: ls) = [twinL x, []] ++ twinLines ls := rfl
    rw [e, end_app, List.length_append, List.length_cons, Nat.add_mul]
    have e2 : (endL [twinL x, []]).length = (dbl x).length + 13 := by simp [endL, twinL, tailW]
    rw [e2]
    omega
theorem twin_step {L : List Bs} {j : Nat} {x : Bs} (h : L[j]? = some x) : endL (twinLines (L.take (j + 1))) = endL (twinLines (L.take j)) ++ [32, 32] ++ dbl x ++ [32, 59, 32, 97, 58, 32, 86, 65, 82, 10, 10] := by
  rw [List.take_add_one, h, twins_app, end_app]
  show _ ++ endL [twinL x, []] = _
  simp [endL, twinL, tailW]
theorem row_cell {w : World} {N n : Nat} {v : Value} {L : List Bs} (h : w.ownsRow N 9 1 v n (strs L)) (hn : 0 < n) (hL : n = L.length) : ∃ g c, v = .slice (some ⟨g, 0, none⟩) n c ∧ ∀ (j : Nat) (x : Bs), L[j]? = some x → w.cell? ⟨g, j, none⟩ = some (.string (S x)) := by
  obtain ⟨g, c, rfl, -⟩ := own_form h hn
  refine ⟨g, c, rfl, fun j x hx => ?_⟩
  have hj := (List.getElem?_eq_some_iff.1 hx).1
  rw [World.ownsRow.cellAt h j (by omega)]
  simp [strs, hx]
def maxI (n : Int) : Int := if n < 0 then 0 else n
theorem run_maxI (n : Int) (ts : Array TypeId) (t : TypeId) (W : World) : (Builtin.max_ ts t #[.int .i64 n, .int .i64 0]).run Tryd.prog W = .ok (.int .i64 (maxI n)) W := by
  have e : (if 0 > n then 0 else n) = maxI n := rfl
  rw [run_max_int2, e]

set_option maxRecDepth 100000 in
set_option maxHeartbeats 8000000 in
theorem twins_walk {B : Base} (C : Code B) (s : ByteArray) (w : World) (hE : B.E w.heap.size w) : Calls Tryd.prog 4 #[.string s] w (Tells (.bool true) w) := by
  obtain ⟨l, rfl⟩ : ∃ l, s = S l := ⟨s.data.toList, (S_list s).symm⟩
  have CC := Lib.hid C
  have hsz := S_size l
  have HC := Lib.hid (Cur.first hE)
  obtain ⟨N, hN⟩ : ∃ N, w.heap.size = N := ⟨_, rfl⟩
  unfold Tells
  rw [hN] at HC ⊢
  clear C hE
  by_cases hgd : l.length ≤ 700
  · have hg2 : ¬ (700 : Int) < l.length := by omega
    have hSp : ∀ W, Calls Tryd.prog 13 #[.string (S l), .int .u8 10] W fun e w' => ∃ g c, e = .returned (.slice (some ⟨g, 0, none⟩) (splitB 10 l).length c) ∧ (∀ (j : Nat) (x : Bs), (splitB 10 l)[j]? = some x → w'.cell? ⟨g, j, none⟩ = some (.string (S x))) ∧ Below W.heap.size W w' := fun W =>
      (rSplit_any l 10 (by omega) W).mono fun e w' ⟨v, h1, h2, h3⟩ => by
        obtain ⟨g, c, h4, h5⟩ := row_cell h2 (by have := split_ne 10 l; exact List.length_pos_iff.2 this) rfl
        exact ⟨g, c, by rw [h1, h4], h5, h3⟩
    have HSp := Lib.hid hSp
    have hLl := split_len 10 l
    have HLs := Lib.hid (split_size 10 l)
    have HTw := Lib.hid (show twinB l = endL (twinLines (splitB 10 l)) from rfl)
    have HA := Lib.hid (fun W (hc : Cur B N w W) => CC.out.asm N l W hc.e hc.size (by omega))
    have HA2 := Lib.hid (fun W (hc : Cur B N w W) (h : (twinB l).length ≤ 4000) => CC.out.asm N (twinB l) W hc.e hc.size h)
    have HT := Lib.hid (fun h : (twinB l).length ≤ 4000 => asm_twin l (by omega) h)
    have hle := line_le l
    generalize splitB 10 l = L at *
    have hLi : (L.length : Int) ≤ 701 := by omega
    have hgI : (l.length : Int) ≤ 700 := by omega
    clear hSp hgd
    go_enter Tryd.func4, Tryd.ntmps4
    go_wp2_with fail
    refine (awake_any CC.out _ HC.out).mono ?_
    rintro e w1 ⟨rfl, hb1⟩
    have HC1 := Lib.hid (HC.out.next hb1)
    clear hb1
    go_wp2_with fail
    refine (HSp.out _).mono ?_
    rintro e w2 ⟨g, c0, rfl, hcell, hb2⟩
    have HC2 := Lib.hid (HC1.out.next hb2)
    have HCe := Lib.hid hcell
    clear hb2 hcell HC1
    go_wp2
    go_loopw [3, 21] (fun out i wr => ∃ (j : Nat) (t : Bs), (j : Int) ≤ L.length ∧ i = .int .i64 j ∧ out = .string (S t) ∧ Hid (t = endL (twinLines (L.take j))) ∧ wr = w2) (fun _ i _ => L.length - (intOf i).toNat)
    case atStart => exact ⟨0, [], by omega, rfl, rfl, Lib.hid rfl, rfl⟩
    case round =>
      obtain ⟨j, t, hj, rfl, rfl, hT, rfl⟩ := hrel
      by_cases hlt : (j : Int) < L.length
      · obtain ⟨x, hx⟩ : ∃ x, L[j]? = some x := ⟨_, List.getElem?_eq_getElem (by omega)⟩
        have hxl : x.length ≤ 700 := by have := HLs.out x (List.mem_of_getElem? hx); omega
        have hxi : (x.length : Int) ≤ 700 := by omega
        have htl : t.length ≤ 1000000 := by
          have h := twin_len 700 (L.take j) (fun y hy => by have := HLs.out y (List.mem_of_mem_take hy); omega)
          rw [← hT.out] at h
          simp at h
          have : min j L.length ≤ 701 := by omega
          have h2 : min j L.length * 1413 ≤ 701 * 1413 := Nat.mul_le_mul_right _ this
          omega
        have cj := HCe.out j x hx
        have hxs := S_size x
        have HX := Lib.hid hx
        have hadd := fun W => sadd t [32, 32] (by simp; omega) W
        have hr0 := Lib.hid (show t ++ [32, 32] = endL (twinLines (L.take j)) ++ [32, 32] ++ dbl (x.take 0) by rw [hT.out]; simp [dbl])
        have htl2 : (t ++ [32, 32]).length ≤ 1000002 := by simp; omega
        replace hadd : ∀ W, (Op.stringOp .add (S t) (⟨#[32, 32]⟩ : ByteArray)).run Tryd.prog W = .ok (.string (S (t ++ [32, 32]))) W := hadd
        generalize t ++ [32, 32] = t1 at *
        clear hx
        go_wp2
        go_loopw [3, 29] (fun out i wq => ∃ (k : Nat) (t2 : Bs), (k : Int) ≤ x.length ∧ i = .int .i64 k ∧ out = .string (S t2) ∧ Hid (t2 = endL (twinLines (L.take j)) ++ [32, 32] ++ dbl (x.take k)) ∧ wq = wr) (fun _ i _ => x.length - (intOf i).toNat)
        case atStart => exact ⟨0, t1, by omega, rfl, rfl, hr0, rfl⟩
        case round =>
          obtain ⟨k, t2, hk, rfl, rfl, hT2, rfl⟩ := hrel
          have h2l : t2.length ≤ 1002000 := by
            rw [hT2.out, ← hT.out]
            have := dbl_len (x.take k)
            simp at this ⊢
            omega
          by_cases hlk : (k : Int) < x.length
          · obtain ⟨c, hc⟩ : ∃ c, x[k]? = some c := ⟨_, List.getElem?_eq_getElem (by omega)⟩
            have hxk := S_at x k c hc (by rw [hxs]; omega)
            have hstep := dbl_step hc
            have hw1 : IntKind.i64.wrap ((k : Int) + 1) = (k : Int) + 1 := by rw [IntKind.wrap_i64]; omega
            have hk1 : (k : Int) + 1 ≤ (x.length : Int) := by omega
            have ha1 : ∀ W, (Op.stringOp .add (S t2) ((S x).extract k (k + 1))).run Tryd.prog W = .ok (.string (S (t2 ++ [c]))) W := fun W => by
              rw [extract_one x k c hc]
              exact sadd t2 [c] (by simp; omega) W
            have h3l : (t2 ++ [c]).length ≤ 1002001 := by simp; omega
            by_cases h32 : c = 32
            · subst h32
              rw [if_pos rfl] at hstep
              have hb : (((32 : UInt8).toNat : Int) == 32) = true := by decide
              have ha2 : ∀ W, (Op.stringOp .add (S (t2 ++ [32])) (⟨#[32]⟩ : ByteArray)).run Tryd.prog W = .ok (.string (S (t2 ++ [32] ++ [32]))) W := fun W => sadd (t2 ++ [32]) [32] (by simp; omega) W
              have HR := Lib.hid (show t2 ++ [32] ++ [32] = endL (twinLines (L.take j)) ++ [32, 32] ++ dbl (x.take (k + 1)) by rw [hstep, hT2.out]; simp)
              generalize t2 ++ [32] ++ [32] = t4 at *
              generalize t2 ++ [32] = t3 at *
              generalize (32 : UInt8) = c at *
              clear hstep hc
              go_wp2
              go_roundw
              case rel => exact ⟨k + 1, t4, by omega, by go_num, by first | trivial | rfl, HR, by first | trivial | rfl⟩
              case measure => simp [intOf]; omega
            · rw [if_neg h32] at hstep
              have hb : ((c.toNat : Int) == 32) = false := u8_ne (c := 32) h32
              have HR := Lib.hid (show t2 ++ [c] = endL (twinLines (L.take j)) ++ [32, 32] ++ dbl (x.take (k + 1)) by rw [hstep, hT2.out]; simp)
              generalize t2 ++ [c] = t3 at *
              clear hstep hc h32
              go_wp2
              go_roundw
              case rel => exact ⟨k + 1, t3, by omega, by go_num, by first | trivial | rfl, HR, by first | trivial | rfl⟩
              case measure => simp [intOf]; omega
          · have hkx : x.take k = x := by rw [List.take_of_length_le (by omega)]
            have ha1 : ∀ W, (Op.stringOp .add (S t2) (⟨#[32, 59, 32, 97, 58, 32, 86, 65, 82, 10, 10]⟩ : ByteArray)).run Tryd.prog W = .ok (.string (S (t2 ++ [32, 59, 32, 97, 58, 32, 86, 65, 82, 10, 10]))) W := fun W => sadd t2 [32, 59, 32, 97, 58, 32, 86, 65, 82, 10, 10] (by simp; omega) W
            have HR := Lib.hid (show t2 ++ [32, 59, 32, 97, 58, 32, 86, 65, 82, 10, 10] = endL (twinLines (L.take (j + 1))) by rw [twin_step HX.out, hT2.out, hkx])
            generalize t2 ++ [32, 59, 32, 97, 58, 32, 86, 65, 82, 10, 10] = t4 at *
            clear hkx
            go_wp2
            go_roundw
            case rel => exact ⟨j + 1, t4, by omega, by go_num, by first | trivial | rfl, HR, by first | trivial | rfl⟩
            case measure => simp [intOf]; omega
      · have hjL : j = L.length := by omega
        have hTB := Lib.hid (show t = twinB l by rw [hT.out, HTw.out, hjL, List.take_length])
        have hts := S_size t
        rw [← hTB.out] at HA2 HT
        clear hjL HCe HLs HTw hT
        by_cases h4 : t.length ≤ 4000
        · have h42 : ¬ (4000 : Int) < t.length := by omega
          have hr := HT.out h4
          have HA3 := Lib.hid (fun W hc => HA2.out W hc h4)
          unfold Asms at HA HA3
          rw [hr] at HA3
          obtain ⟨r, hrr⟩ : ∃ r, r = asmB l := ⟨_, rfl⟩
          rw [← hrr] at HA HA3 hle
          have hcode : codeOf (shiftE id r) = codeOf r := by cases r <;> rfl
          have herr : errOf (shiftE id r) = errOf r := by cases r <;> rfl
          have hline : lineOf (shiftE id r) = 2 * lineOf r - 1 := by cases r <;> rfl
          rw [hcode, herr, hline] at HA3
          have HSm := Lib.hid (fun (W : World) (a1 a2 : Option Addr) (c1 c2 : Nat) (h1 : Lies W W.heap.size a1 (codeOf r)) (h2 : Lies W W.heap.size a2 (codeOf r)) (h : (codeOf r).length ≤ 200) => rSame_any (codeOf r) a1 a2 c1 c2 W h1 h2 (by omega))
          have hmx := run_maxI (2 * (lineOf r : Int) - 1)
          have hme : maxI (2 * (lineOf r : Int) - 1) = ((2 * lineOf r - 1 : Nat) : Int) := by unfold maxI; split <;> omega
          rw [hme] at hmx
          have hw2 : IntKind.i64.wrap (2 * (lineOf r : Int)) = 2 * (lineOf r : Int) := by rw [IntKind.wrap_i64]; omega
          have hw3 : IntKind.i64.wrap (2 * (lineOf r : Int) - 1) = 2 * (lineOf r : Int) - 1 := by rw [IntKind.wrap_i64]; omega
          have hee : ((errOf r : Int) == (errOf r : Int)) = true := by simp
          have hll : (((2 * lineOf r - 1 : Nat) : Int) == ((2 * lineOf r - 1 : Nat) : Int)) = true := by simp
          clear hrr hcode herr hline hr HA2 HT hle hme h4
          generalize 2 * lineOf r - 1 = q2 at *
          generalize lineOf r = q at *
          generalize errOf r = er at *
          generalize codeOf r = cd at *
          go_wp2_with fail
          refine (HA.out _ HC2.out).mono ?_
          rintro e w3 ⟨a1, c1, rfl, h1, h200, hb3⟩
          have HC3 := Lib.hid (HC2.out.next hb3)
          have H1 := Lib.hid h1
          have H200 := Lib.hid h200
          clear hb3 h1 h200 HA
          go_wp2_with fail
          refine (HA3.out _ HC3.out).mono ?_
          rintro e w4 ⟨a2, c2, rfl, h2, -, hb4⟩
          have HC4 := Lib.hid (HC3.out.next hb4)
          have HS4 := Lib.hid (HSm.out w4 a1 a2 c1 c2 ((H1.out.below hb4).more hb4.size) h2 H200.out)
          clear hb4 h2 HA3 HSm
          go_wp2_with fail
          refine HS4.out.mono ?_
          rintro e w5 ⟨rfl, m, rfl⟩
          go_wp2
          go_ret
          exact ⟨by simp, (HC4.out.drewN m).below⟩
        · have h42 : (4000 : Int) < t.length := by omega
          clear h4
          go_wp2
          go_ret
          exact ⟨by simp, HC2.out.below⟩
  · have hg2 : (700 : Int) < l.length := by omega
    go_enter Tryd.func4, Tryd.ntmps4
    go_wp2_with fail
    refine (awake_any CC.out _ HC.out).mono ?_
    rintro e w1 ⟨rfl, hb1⟩
    have HC1 := Lib.hid (HC.out.next hb1)
    clear hb1
    go_wp2
    go_ret
    exact ⟨by simp, HC1.out.below⟩

end Go.Proofs.YtpnjhodpbjhmcaaDoor.Il
