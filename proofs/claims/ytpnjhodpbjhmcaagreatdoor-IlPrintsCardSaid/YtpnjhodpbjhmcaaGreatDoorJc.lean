/-
  The landed program: tell, lead, and Assemble, walked; the code answers as is asked. Conditions: a text of at most 4000 bytes; the library's table of powers and MaxLen are as the program lays them.
-/
import Derived.Test.YtpnjhodpbjhmcaaGreatDoorJb
import Derived.Test.YtpnjhodpbjhmcaaGreatDoorIlCode
import Derived.Carry
namespace Go.Proofs.YtpnjhodpbjhmcaaGreatDoor.Il
open Go.RowKit
open Go.Proofs.YtpnjhodpbjhmcaaGreatDoor.Ic

/-- What tell leaves. -/
def Told (p : Nat) (ms : List Nat) (st : Asm) (ws : List Bs) (ln : Nat) (w : World) (e : Ending) (w' : World) : Prop :=
  ∃ x, Done p ms (.int .i64 (tellE st ws : Nat)) x w e w' ∧ (tellE st ws = 0 → x = rawOf (tellS st ws ln))
theorem Done.trans {p : Nat} {ms ns : List Nat} {v : Value} {x : Raw} {w X w' : World} {e : Ending} (ho : OnlyL ms w X) (hn : ∀ j ∈ ns, j ∈ ms ∨ w.heap.size ≤ j) (h : Done p ns v x X e w') : Done p ms v x w e w' := by
  obtain ⟨he, ks, hr, hk, hks⟩ := h
  exact ⟨he, ks, hr, ho.trans hk hn, fun j hj => (hks j hj).elim (hn j) fun h => .inr (Nat.le_trans ho.size h)⟩
theorem mark_raw (st : Asm) (nm : Bs) (h : look st.labels nm = none) : markX (rawOf st) nm = rawOf (markS st nm) := by
  unfold markX markS rawOf
  dsimp only
  rw [h]
  simp
theorem Room200.mark {st : Asm} (h : Room200 st) (nm : Bs) : Room200 (markS st nm) := h
theorem RowS.only {w w' : World} {g o : Nat} {ws : List Bs} {ms : List Nat} (h : RowS w g o ws) (hb : OnlyL ms w w') (hg : g ∉ ms) : RowS w' g o ws := fun j x hx => ⟨hb.cell hg (h j x hx).1, (h j x hx).2⟩

set_option maxRecDepth 100000 in
set_option maxHeartbeats 1000000 in
theorem cTell (N p : Nat) (ms : List Nat) (st : Asm) (g o c ln : Nat) (ws : List Bs) (w : World) (h : RawAt w p ms (rawOf st)) (hf : Room200 st) (hw : RowS w g o ws) (hE : Env w)
    (hN : 0 < N ∧ 1 < N) (hms : ∀ j ∈ ms, N ≤ j) (hNw : N ≤ w.heap.size) (hg : g ∉ ms) (hc : ws.length ≤ c) :
    Calls Tryz.prog 20 #[.pointer (some ⟨p, 0, none⟩), .slice (some ⟨g, o, none⟩) ws.length c, .int .i64 ln] w (Told p ms st ws ln w) := by
  match ws, hw, hc with
  | [], _, _ =>
    have hX := Lib.hid h
    simp only [List.length_nil]
    clear hE hms hg h hf
    go_enter Tryz.func20, Tryz.ntmps20
    go_wp2
    go_ret
    exact ⟨_, Done.same hX.out (Below.refl _ _), fun _ => rfl⟩
  | a :: rest, hw, hc =>
    have hlen : (a :: rest).length = rest.length + 1 := rfl
    have h0 : ((rest.length + 1 : Nat) : Int) ≠ 0 := by omega
    have e0 := hw.head.1
    have l0 := hw.head.2
    have hX := Lib.hid h
    by_cases hv : a = [86, 65, 82]
    · have q0 := str_is hv
      have HD := Lib.hid (fun W (hb : Below w.heap.size w W) (hE : Env W) => cDecl p ms st g o c (a :: rest) W (h.below hb) (hw.kept hb) hE)
      have hE0 := Lib.hid hE
      have ht : Hid (tellE st (a :: rest) = declE st (a :: rest) ∧ tellS st (a :: rest) ln = declS st (a :: rest)) := by
        unfold tellE tellS
        dsimp only
        rw [if_pos hv, if_pos hv]
        exact ⟨rfl, rfl⟩
      unfold Told
      rw [hlen] at HD ⊢
      clear hv hE h hms hg hf hw l0 hc hlen
      generalize S a = sa at *
      generalize rest.length + 1 = n at *
      go_enter Tryz.func20, Tryz.ntmps20
      go_wp2_with fail
      refine (HD.out _ (Below.refl _ _) hE0.out).mono ?_
      rintro e w1 ⟨rfl, hd⟩
      replace hd := Lib.hid hd
      go_wp2
      go_ret
      exact ⟨_, ⟨by rw [ht.out.1]; rfl, hd.out⟩, fun _ => by rw [ht.out.2]⟩
    · have q0 := s_not hv
      have HC : Hid (∀ W, Calls Tryz.prog 47 #[.string (S a), .string ⟨#[58]⟩] W (Tells (.tuple #[.string (S (cutSuf a 58).1), .bool (cutSuf a 58).2]) W)) := fun W => cSuf a 58 l0 W
      have HA := Lib.hid (fun W (hb : Below w.heap.size w W) (hE : Env W) => cAdd p ms st g o c ln (a :: rest) W (h.below hb) hf (hw.kept hb) hE)
      have ln0 : (cutSuf a 58).1.length ≤ 100000 := by
        unfold cutSuf
        split
        · show a.dropLast.length ≤ _
          rw [List.length_dropLast]; omega
        · exact l0
      have HNM := Lib.hid (fun W => cIsName (cutSuf a 58).1 ln0 W)
      have HMK := Lib.hid (fun W (hb : Below w.heap.size w W) => cMark p ms (rawOf st) (cutSuf a 58).1 W (h.below hb))
      have hE0 := Lib.hid hE
      have k0 := Lib.hid e0
      have HP := Lib.hid (⟨hw, hms, hg, hf⟩ : _ ∧ _ ∧ _ ∧ _)
      have hadd : Hid (∀ (_ : (cutSuf a 58).2 = true ∧ nameB (cutSuf a 58).1 = true → False), tellE st (a :: rest) = addE st (a :: rest) ∧ tellS st (a :: rest) ln = addS st (a :: rest) ln) := fun hno => by
        unfold tellE tellS
        dsimp only
        rw [if_neg hv, if_neg hv, if_neg hno, if_neg hno]
        exact ⟨rfl, rfl⟩
      have hmk : Hid (∀ (_ : (cutSuf a 58).2 = true ∧ nameB (cutSuf a 58).1 = true), tellE st (a :: rest) = (if (look st.labels (cutSuf a 58).1).isSome then 5 else if rest = [] then 0 else addE (markS st (cutSuf a 58).1) rest) ∧ tellS st (a :: rest) ln = (if rest = [] then markS st (cutSuf a 58).1 else addS (markS st (cutSuf a 58).1) rest ln)) := fun hyes => by
        unfold tellE tellS
        dsimp only
        rw [if_neg hv, if_neg hv, if_pos hyes, if_pos hyes]
        exact ⟨rfl, rfl⟩
      unfold Told
      rw [hlen] at HA ⊢
      have hcn : (1 : Int) ≤ ((rest.length + 1 : Nat) : Int) ∧ ((rest.length + 1 : Nat) : Int) ≤ (c : Int) := by constructor <;> omega
      clear hv hE h hms hg hf hw l0 hc ln0 e0
      generalize hnn : (cutSuf a 58).1 = nm at *
      cases hsf : (cutSuf a 58).2 with
      | false =>
        rw [hsf] at HC
        have ha := Lib.hid (hadd.out (fun h => by rw [hsf] at h; cases h.1))
        have e0 := k0.out
        clear hadd hmk HMK HNM HP hsf hnn hcn
        generalize S a = sa at *
        generalize S nm = sn at *
        generalize rest.length + 1 = n at *
        go_enter Tryz.func20, Tryz.ntmps20
        go_wp2_with fail
        refine (HC.out _).mono ?_
        rintro e w1 ⟨rfl, hb1⟩
        have hE1 := Lib.hid (hE0.out.below hb1)
        replace hb1 := Lib.hid hb1
        go_wp2_with fail
        refine (HA.out _ hb1.out hE1.out).mono ?_
        rintro e w2 ⟨rfl, hd⟩
        replace hd := Lib.hid hd
        go_wp2
        go_ret
        exact ⟨_, Done.from hb1.out ⟨by rw [ha.out.1]; rfl, hd.out⟩, fun _ => by rw [ha.out.2]⟩
      | true =>
        rw [hsf] at HC
        cases hnb : nameB nm with
        | false =>
          rw [hnb] at HNM
          have ha := Lib.hid (hadd.out (fun h => by rw [hnb] at h; cases h.2))
          have e0 := k0.out
          clear hadd hmk HMK HP hsf hnn hcn hnb
          generalize S a = sa at *
          generalize S nm = sn at *
          generalize rest.length + 1 = n at *
          go_enter Tryz.func20, Tryz.ntmps20
          go_wp2_with fail
          refine (HC.out _).mono ?_
          rintro e w1 ⟨rfl, hb1⟩
          have hE1 := Lib.hid (hE0.out.below hb1)
          replace hb1 := Lib.hid hb1
          go_wp2_with fail
          refine (HNM.out _).mono ?_
          rintro e w2 ⟨rfl, hb2⟩
          have hb3 := Lib.hid (hb1.out.trans (hb2.mono hb1.out.size))
          have hE2 := Lib.hid (hE1.out.below hb2)
          clear hb2
          go_wp2_with fail
          refine (HA.out _ hb3.out hE2.out).mono ?_
          rintro e w3 ⟨rfl, hd⟩
          replace hd := Lib.hid hd
          go_wp2
          go_ret
          exact ⟨_, Done.from hb3.out ⟨by rw [ha.out.1]; rfl, hd.out⟩, fun _ => by rw [ha.out.2]⟩
        | true =>
          rw [hnb] at HNM
          have hm := Lib.hid (hmk.out ⟨hsf, hnb⟩)
          have e0 := k0.out
          clear hadd hmk hsf hnn hnb HA
          have hml : Hid (markE (rawOf st) nm = if (look st.labels nm).isSome then 5 else 0) := rfl
          have hmx := Lib.hid (mark_raw st nm)
          have hNw' := Lib.hid hNw
          clear hNw
          cases hl : look st.labels nm with
          | some k =>
            rw [hl] at hm hml
            have hm1 : Hid (tellE st (a :: rest) = 5) := hm.out.1
            have hml1 : markE (rawOf st) nm = 5 := hml.out
            rw [hml1] at HMK
            clear hl hm hml hmx hml1 HP hcn
            generalize markX (rawOf st) nm = mx at *
            generalize S a = sa at *
            generalize S nm = sn at *
            generalize rest.length + 1 = n at *
            go_enter Tryz.func20, Tryz.ntmps20
            go_wp2_with fail
            refine (HC.out _).mono ?_
            rintro e w1 ⟨rfl, hb1⟩
            go_wp2_with fail
            refine (HNM.out _).mono ?_
            rintro e w2 ⟨rfl, hb2⟩
            have hb3 := Lib.hid (hb1.trans (hb2.mono hb1.size))
            clear hb1 hb2
            go_wp2_with fail
            refine (HMK.out _ hb3.out).mono ?_
            rintro e w3 ⟨rfl, hd⟩
            replace hd := Lib.hid hd
            go_wp2
            go_ret
            exact ⟨_, Done.from hb3.out ⟨by rw [hm1.out]; rfl, hd.out⟩, fun h => by rw [hm1.out] at h; cases h⟩
          | none =>
            rw [hl] at hm hml
            have hml1 : markE (rawOf st) nm = 0 := hml.out
            rw [hml1, hmx.out hl] at HMK
            clear hl hml hmx hml1
            cases rest with
            | nil =>
              have hm1 : Hid (tellE st [a] = 0 ∧ tellS st [a] ln = markS st nm) := hm.out
              clear hm HP hcn h0
              simp only [List.length_nil, Nat.zero_add]
              generalize S a = sa at *
              generalize S nm = sn at *
              go_enter Tryz.func20, Tryz.ntmps20
              go_wp2_with fail
              refine (HC.out _).mono ?_
              rintro e w1 ⟨rfl, hb1⟩
              go_wp2_with fail
              refine (HNM.out _).mono ?_
              rintro e w2 ⟨rfl, hb2⟩
              have hb3 := Lib.hid (hb1.trans (hb2.mono hb1.size))
              clear hb1 hb2
              go_wp2_with fail
              refine (HMK.out _ hb3.out).mono ?_
              rintro e w3 ⟨rfl, hd⟩
              replace hd := Lib.hid hd
              go_wp2
              go_ret
              exact ⟨_, Done.from hb3.out ⟨by rw [hm1.out.1]; rfl, hd.out⟩, fun _ => by rw [hm1.out.2]⟩
            | cons b r =>
              have hm1 : Hid (tellE st (a :: b :: r) = addE (markS st nm) (b :: r) ∧ tellS st (a :: b :: r) ln = addS (markS st nm) (b :: r) ln) := hm.out
              have h1 : (((b :: r).length + 1 : Nat) : Int) ≠ 1 := by simp; omega
              clear hm
              generalize S a = sa at *
              generalize S nm = sn at *
              generalize hrl : (b :: r).length = n at *
              have hrl := Lib.hid hrl
              go_enter Tryz.func20, Tryz.ntmps20
              go_wp2_with fail
              refine (HC.out _).mono ?_
              rintro e w1 ⟨rfl, hb1⟩
              have hE1 := Lib.hid (hE0.out.below hb1)
              go_wp2_with fail
              refine (HNM.out _).mono ?_
              rintro e w2 ⟨rfl, hb2⟩
              have hb3 := Lib.hid (hb1.trans (hb2.mono hb1.size))
              have hE2 := Lib.hid (hE1.out.below hb2)
              clear hb1 hb2
              go_wp2_with fail
              refine (HMK.out _ hb3.out).mono ?_
              rintro e w3 ⟨rfl, ns, hr3, ho3, hn3⟩
              have hr3 := Lib.hid hr3
              have ho3 := Lib.hid ho3
              have hn3 := Lib.hid hn3
              obtain ⟨hw, hms, hg, hf⟩ := HP.out
              have hE3 : Env w3 := hE0.out.belowN hN ((hb3.out.mono hNw'.out).trans (ho3.out.below hms (Nat.le_trans hNw'.out hb3.out.size)))
              have hA3 := cAdd p ns (markS st nm) g (o + 1) (c - 1) ln (b :: r) w3 hr3.out (Room200.mark hf nm) ((hw.kept hb3.out).only ho3.out hg).tail hE3
              rw [hrl.out] at hA3
              replace hA3 := Lib.hid hA3
              clear hw hms hg hf hE3
              go_wp2_with fail
              refine hA3.out.mono ?_
              rintro e w4 ⟨rfl, hd⟩
              replace hd := Lib.hid hd
              go_wp2
              go_ret
              exact ⟨_, Done.from hb3.out (Done.trans ho3.out hn3.out ⟨by rw [hm1.out.1]; rfl, hd.out⟩), fun _ => by rw [hm1.out.2]⟩

end Go.Proofs.YtpnjhodpbjhmcaaGreatDoor.Il

namespace Go.Proofs.YtpnjhodpbjhmcaaGreatDoor.Il
open Go.RowKit
open Go.Proofs.YtpnjhodpbjhmcaaGreatDoor.Ic

/-! ### Plain -/
def placed (a : Int) (i : In) : In := ⟨i.op, i.kd, i.ar, a, i.n⟩
def leadL (labels : List (Bs × Nat)) : List (Nat × Nat × Bs) → List In → Except Nat (List In)
  | [], l => .ok l
  | q :: r, l => match look labels q.2.2 with
    | none => .error q.2.1
    | some a => leadL labels r (l.modify q.1 (placed (a : Nat)))
def outJ (pre : List In) : Except (Nat × Nat) (List In) → Except Nat (List In)
  | .ok l => .ok (pre ++ l)
  | .error q => .error q.2
theorem jumps_cons (labels : List (Bs × Nat)) (i : In) (lab : Bs) (ln : Nat) (r : List (In × Bs × Nat)) : jumpsB labels ((i, lab, ln) :: r) =
    if lab = [] then (match jumpsB labels r with | .ok l => Except.ok (i :: l) | .error e => Except.error e)
    else match look labels lab with
      | none => Except.error (5, ln)
      | some k => (match jumpsB labels r with | .ok l => Except.ok (⟨i.op, i.kd, i.ar, (k : Int), i.n⟩ :: l) | .error e => Except.error e) := rfl
theorem modify_app {f : In → In} (i : In) (t : List In) : ∀ pre : List In, (pre ++ i :: t).modify pre.length f = pre ++ f i :: t
  | [] => rfl
  | a :: pre => by
    show a :: (pre ++ i :: t).modify pre.length f = _
    rw [modify_app i t pre]
    rfl
theorem lead_jumps (labels : List (Bs × Nat)) : ∀ (cs : List (In × Bs × Nat)) (pre : List In),
    leadL labels (leapsOf pre.length cs) (pre ++ cs.map (·.1)) = outJ pre (jumpsB labels cs)
  | [], pre => by simp [leapsOf, leadL, jumpsB, outJ]
  | (i, lab, ln) :: r, pre => by
    have ih := fun j => lead_jumps labels r (pre ++ [j])
    have hl : ∀ j : In, (pre ++ [j]).length = pre.length + 1 := fun j => by simp
    simp only [hl, List.append_assoc] at ih
    rw [jumps_cons]
    by_cases h : lab = []
    · subst h
      rw [if_pos rfl]
      show leadL labels (([] : List (Nat × Nat × Bs)) ++ leapsOf (pre.length + 1) r) (pre ++ ([i] ++ r.map (·.1))) = _
      rw [List.nil_append, ih i]
      cases jumpsB labels r with
      | error q => rfl
      | ok l => simp [outJ]
    · have e1 : leapsOf pre.length ((i, lab, ln) :: r) = (pre.length, ln, lab) :: leapsOf (pre.length + 1) r := by
        show (if lab = [] then [] else [(pre.length, ln, lab)]) ++ _ = _
        rw [if_neg h]
        rfl
      rw [e1, if_neg h]
      unfold leadL
      dsimp only
      cases look labels lab with
      | none => rfl
      | some a =>
        show leadL labels (leapsOf (pre.length + 1) r) ((pre ++ i :: r.map (·.1)).modify pre.length (placed (a : Nat))) = _
        rw [modify_app (f := placed (a : Nat)) i (r.map (·.1)) pre]
        rw [show pre ++ placed (a : Nat) i :: r.map (·.1) = pre ++ ([placed (a : Nat) i] ++ r.map (·.1)) from rfl, ih]
        cases jumpsB labels r with
        | error q => rfl
        | ok l => simp [outJ, placed]
theorem jumps_err (labels : List (Bs × Nat)) : ∀ (cs : List (In × Bs × Nat)) (q : Nat × Nat), jumpsB labels cs = .error q → q.1 = 5
  | [], q, h => by cases h
  | (i, lab, ln) :: r, q, h => by
    have ih := jumps_err labels r
    unfold jumpsB at h
    split at h
    · cases hr : jumpsB labels r with
      | ok l => rw [hr] at h; cases h
      | error e => rw [hr] at h; cases h; exact ih _ hr
    · split at h
      · cases h; rfl
      · cases hr : jumpsB labels r with
        | ok l => rw [hr] at h; cases h
        | error e => rw [hr] at h; cases h; exact ih _ hr
theorem leaps_from : ∀ (cs : List (In × Bs × Nat)) (k : Nat), ∀ q ∈ leapsOf k cs, q.1 < k + cs.length
  | [], _, q, h => by cases h
  | c :: r, k, q, h => by
    have ih := leaps_from r (k + 1)
    rcases List.mem_append.1 (show q ∈ (if c.2.1 = [] then [] else [(k, c.2.2, c.2.1)]) ++ leapsOf (k + 1) r from h) with h | h
    · split at h
      · cases h
      · simp at h; rw [h]; simp
    · have := ih q h
      simp only [List.length_cons]
      omega
theorem flat5_set (v : Int) : ∀ (l : List In) (k : Nat), k < l.length → (flat5 l).set (k * 5 + 3) (.int .i64 v) = flat5 (l.modify k (placed v))
  | [], _, h => by simp at h
  | i :: r, 0, _ => rfl
  | i :: r, k + 1, h => by
    have ih := flat5_set v r k (by simp at h; omega)
    show (cells5 i ++ flat5 r).set ((k + 1) * 5 + 3) _ = cells5 i ++ flat5 (r.modify k (placed v))
    rw [List.set_append_right _ _ (by show 5 ≤ _; omega), show (k + 1) * 5 + 3 - (cells5 i).length = k * 5 + 3 by show (k + 1) * 5 + 3 - 5 = _; omega, ih]
theorem flat5_at : ∀ (l : List In) (k : Nat), k < l.length → ∃ v, (flat5 l)[k * 5 + 3]? = some v
  | [], _, h => by simp at h
  | i :: r, 0, _ => ⟨_, rfl⟩
  | i :: r, k + 1, h => by
    obtain ⟨v, ih⟩ := flat5_at r k (by simp at h; omega)
    refine ⟨v, ?_⟩
    show (cells5 i ++ flat5 r)[(k + 1) * 5 + 3]? = _
    rw [List.getElem?_append_right (by show 5 ≤ _; omega), show (k + 1) * 5 + 3 - (cells5 i).length = k * 5 + 3 by show (k + 1) * 5 + 3 - 5 = _; omega, ih]
theorem flat3_at : ∀ (l : List (Nat × Nat × Bs)) (k j : Nat) (q : Nat × Nat × Bs), l[k]? = some q → j < 3 → (flat3 l)[k * 3 + j]? = (cells3 q)[j]?
  | [], _, _, _, h, _ => by simp at h
  | i :: r, 0, j, q, h, hj => by
    simp at h
    subst h
    show (cells3 i ++ flat3 r)[0 * 3 + j]? = _
    rw [Nat.zero_mul, Nat.zero_add, List.getElem?_append_left hj]
  | i :: r, k + 1, j, q, h, hj => by
    have ih := flat3_at r k j q (by simpa using h) hj
    show (cells3 i ++ flat3 r)[(k + 1) * 3 + j]? = _
    rw [List.getElem?_append_right (by show 3 ≤ _; omega), show (k + 1) * 3 + j - (cells3 i).length = k * 3 + j by show (k + 1) * 3 + j - 3 = _; omega, ih]

/-! ### The object, an instruction placed -/
theorem PartsAt.patch {w : World} {p rp rl g n cap : Nat} {lv : Value} {x : Raw} (h : PartsAt w p rp rl (.slice (some ⟨g, 0, none⟩) n cap) lv x) (k : Nat) (hk : k < x.code.length) (a : Int) :
    PartsAt (w.setCell ⟨g, k * 5 + 3, none⟩ (.int .i64 a)) p rp rl (.slice (some ⟨g, 0, none⟩) n cap) lv ⟨x.places, x.labels, x.code.modify k (placed a), x.leaps⟩ ∧
    OnlyL (msOf p rp rl (.slice (some ⟨g, 0, none⟩) n cap) lv) w (w.setCell ⟨g, k * 5 + 3, none⟩ (.int .i64 a)) := by
  have hraw := h.raw
  obtain ⟨hne, hp, h1, h2, h3, h4⟩ := h
  have hn : n = x.code.length := by
    rcases h3.2 with ⟨e, -⟩ | ⟨g', cap', cur, e, -⟩
    · simp at e
    · simp at e; exact e.2.1
  have hgm : g ∈ own (.slice (some ⟨g, 0, none⟩) n cap) := by simp [own, Value.ownBlock]
  obtain ⟨cur, hcur⟩ := (own_lt h3 g hgm).2
  have hk2 : ∀ j ob, w.heap[j]? = some ob → (∀ cur, ob ≠ Obj.cells cur 34 (0, 0)) → (w.setCell ⟨g, k * 5 + 3, none⟩ (.int .i64 a)).heap[j]? = w.heap[j]? := fun j ob hj hno =>
    set_other (fun e => by rw [e, hcur] at hj; exact hno cur (Option.some.inj hj).symm)
  obtain ⟨es1, ck1, hm1, -⟩ := id h1
  obtain ⟨es2, ck2, hm2, -⟩ := id h2
  refine ⟨⟨hne, (hk2 p _ hp (fun cur e => by simp at e)).trans hp, map_of h1 (hk2 rp _ hm1 (fun cur e => by cases e)), map_of h2 (hk2 rl _ hm2 (fun cur e => by cases e)), ?_, own_of h4 (fun j hj => ?_)⟩, OnlyL.set (by simp [msOf, hgm]) _ _⟩
  · show World.ownsRow _ 0 _ 5 _ (x.code.modify k (placed a)).length (flat5 (x.code.modify k (placed a)))
    rw [List.length_modify, ← flat5_set a x.code k hk]
    rw [hn] at h3 ⊢
    exact (World.ownsRow.stored h3 (k * 5 + 3) _).1
  · obtain ⟨cur', hc'⟩ := (own_lt h4 j hj).2
    exact hk2 j _ hc' (fun cur e => by simp at e)
def leadV (R : Except Nat (List In)) : Value := match R with
  | .ok _ => .tuple #[.int .i64 0, .bool true]
  | .error ln => .tuple #[.int .i64 (ln : Nat), .bool false]
/-- What lead answers, and leaves. -/
def Led (p : Nat) (ms : List Nat) (st : Asm) (w : World) (e : Ending) (w' : World) : Prop :=
  ∃ x, Done p ms (leadV (leadL st.labels (leapsOf 0 st.code) (st.code.map (·.1)))) x w e w' ∧ ∀ l, leadL st.labels (leapsOf 0 st.code) (st.code.map (·.1)) = .ok l → x = ⟨st.places, st.labels, l, leapsOf 0 st.code⟩
theorem own_nil {w : World} {e : TypeId} {size : Nat} {v : Value} {xs : List Value} {n : Nat} (h : w.ownsRow 0 e size v n xs) (hn : 0 < n) : ∃ g cap, v = .slice (some ⟨g, 0, none⟩) n cap := by
  rcases h.2 with ⟨rfl, h0⟩ | ⟨g, cap, cur, rfl, _⟩
  · omega
  · exact ⟨_, _, rfl⟩

set_option maxRecDepth 100000 in
set_option maxHeartbeats 2000000 in
theorem cLead (p : Nat) (ms : List Nat) (st : Asm) (w : World) (h : RawAt w p ms (rawOf st)) (hf : Room200 st) :
    Calls Tryz.prog 22 #[.pointer (some ⟨p, 0, none⟩)] w (Led p ms st w) := by
  obtain ⟨rp, rl, cv, lv, hms, HP⟩ := h
  replace HP : PartsAt w p rp rl cv lv (rawOf st) := HP
  have hm : ms = msOf p rp rl cv lv := hms
  subst hm
  clear hms
  have hfrom := Lib.hid (leaps_from st.code 0)
  have h200 : (leapsOf 0 st.code).length ≤ 200 := Nat.le_trans (leaps_le st.code 0) hf.1
  have hlen : (rawOf st).code.length = st.code.length := by simp [rawOf]
  unfold Led
  generalize hR : leadL st.labels (leapsOf 0 st.code) (st.code.map (·.1)) = R at *
  replace hR : Hid (leadL st.labels (leapsOf 0 st.code) (st.code.map (·.1)) = R) := hR
  obtain ⟨ls, hls⟩ : ∃ ls, ls = leapsOf 0 st.code := ⟨_, rfl⟩
  obtain ⟨cs, hcs⟩ : ∃ cs, cs = st.code.map (·.1) := ⟨_, rfl⟩
  have hx : rawOf st = ⟨st.places, st.labels, cs, ls⟩ := by rw [hls, hcs]; rfl
  rw [hx] at HP
  rw [← hls] at hR hfrom h200 ⊢
  rw [← hcs] at hR
  have hcl : cs.length = st.code.length := by rw [hcs]; simp
  rw [← hcl, Nat.zero_add] at hfrom
  clear hx hls hcs hlen hcl
  generalize st.places = places at *
  generalize st.labels = labels at *
  obtain ⟨c0, c1, c2, c3, -⟩ := RawAt.cells HP.2.1
  by_cases hnil : ls = []
  · subst hnil
    have hR2 : Hid (R = .ok cs) := hR.out.symm
    obtain ⟨B, cb, rfl⟩ := own_form5 HP.2.2.2.2.2
    have HP0 := Lib.hid HP.raw
    have hb0 : (Below w.heap.size w w) := Below.refl _ _
    clear hR hfrom HP c0 c1 c2
    simp only [List.length_nil] at c3 HP0 ⊢
    go_enter Tryz.func22, Tryz.ntmps22
    go_wp2
    go_loopw [13] (fun q wr => q = .int .i64 0 ∧ wr = w) (fun _ _ => 0)
    case atStart => exact ⟨rfl, rfl⟩
    case round =>
      obtain ⟨rfl, rfl⟩ := hrel
      go_wp2
      go_ret2
      refine ⟨⟨places, labels, cs, []⟩, ?_, fun l hl => by rw [hR2.out] at hl; cases hl; rfl⟩
      rw [hR2.out]
      exact Done.same HP0.out hb0
  · have hpos : 0 < ls.length := by cases ls with | nil => exact absurd rfl hnil | cons a b => simp
    obtain ⟨gl, cl, rfl⟩ := own_nil HP.2.2.2.2.2 hpos
    have hcpos : 0 < cs.length := by
      cases hl : ls with
      | nil => exact absurd hl hnil
      | cons a b => have := hfrom.out a (by rw [hl]; simp); omega
    obtain ⟨g, cg, rfl⟩ := own_nil HP.2.2.2.2.1 hcpos
    dsimp only at HP c2 c3 ⊢
    obtain ⟨k0, hk0⟩ : ∃ k, k = cs.length := ⟨_, rfl⟩
    rw [← hk0] at HP hfrom ⊢
    have hst : Hid (PartsAt w p rp rl (.slice (some ⟨g, 0, none⟩) k0 cg) (.slice (some ⟨gl, 0, none⟩) ls.length cl) ⟨places, labels, cs, ls⟩ ∧ cs.length = k0 ∧ leadL labels (ls.drop 0) cs = R ∧ OnlyL (msOf p rp rl (.slice (some ⟨g, 0, none⟩) k0 cg) (.slice (some ⟨gl, 0, none⟩) ls.length cl)) w w) := ⟨HP, hk0.symm, hR.out, OnlyL.refl _ _⟩
    clear hR HP c0 c1 c2 hnil hcpos hpos hk0
    generalize hn : ls.length = m at *
    replace hn := Lib.hid hn
    go_enter Tryz.func22, Tryz.ntmps22
    go_wp2
    go_loopw [13] (fun q wr => ∃ (j : Nat) (l : List In), j ≤ m ∧ q = .int .i64 j ∧ Hid (PartsAt wr p rp rl (.slice (some ⟨g, 0, none⟩) k0 cg) (.slice (some ⟨gl, 0, none⟩) m cl) ⟨places, labels, l, ls⟩ ∧ l.length = k0 ∧ leadL labels (ls.drop j) l = R ∧ OnlyL (msOf p rp rl (.slice (some ⟨g, 0, none⟩) k0 cg) (.slice (some ⟨gl, 0, none⟩) m cl)) w wr)) (fun q _ => m - (intOf q).toNat)
    case atStart => exact ⟨0, cs, by omega, rfl, hst⟩
    case round =>
      obtain ⟨j, l, hj, rfl, hS⟩ := hrel
      by_cases hlt : j < m
      · have hI : (j : Int) < (m : Int) := by omega
        obtain ⟨q, hq⟩ : ∃ q, ls[j]? = some q := ⟨_, List.getElem?_eq_getElem (by rw [hn.out]; exact hlt)⟩
        have hfr := hfrom.out q (List.mem_of_getElem? hq)
        obtain ⟨hP, hl0, hr, ho⟩ := hS.out
        have hdr : ls.drop j = q :: ls.drop (j + 1) := by
          have hjl : j < ls.length := by rw [hn.out]; exact hlt
          rw [List.getElem?_eq_getElem hjl] at hq
          rw [List.drop_eq_getElem_cons hjl, Option.some.inj hq]
        rw [hdr] at hr
        have hrow := hP.2.2.2.2.2
        have hLn : ls.length = m := hn.out
        dsimp only at hrow
        rw [hLn] at hrow
        have hcell : ∀ i, i < 3 → wr.cell? ⟨gl, j * 3 + i, none⟩ = (cells3 q)[i]? := fun i hi => by
          rw [World.ownsRow.cellAt hrow (j * 3 + i) (by omega)]
          exact flat3_at ls j i q hq hi
        obtain ⟨k, ln, lab⟩ := q
        have x0 : wr.cell? ⟨gl, j * 3, none⟩ = some (.int .i64 (k : Nat)) := hcell 0 (by omega)
        have x1 : wr.cell? ⟨gl, j * 3 + 1, none⟩ = some (.int .i64 (ln : Nat)) := hcell 1 (by omega)
        have x2 : wr.cell? ⟨gl, j * 3 + 2, none⟩ = some (.string (S lab)) := hcell 2 (by omega)
        have hbL := (Below.refl wr.heap.size wr).alloc (Nat.le_refl _) (.cells #[.int .i64 (k : Nat), .int .i64 (ln : Nat), .string (S lab)] 84)
        have hPL := Lib.hid (hP.below hbL)
        obtain ⟨c0, c1, c2, c3, cf⟩ := RawAt.cells hPL.out.2.1
        have hlk := run_look hPL.out.2.2.2.1 lab (mty := 52) Tryz.underlying52 Tryz.underlying9 (zero_int _)
        have hlk2 := run_look (w := (wr.alloc (.cells #[.int .i64 (k : Nat), .int .i64 (ln : Nat), .string (S lab)] 84)).drew) hPL.out.2.2.2.1 lab (mty := 52) Tryz.underlying52 Tryz.underlying9 (zero_int _)
        rw [look_labels] at hlk hlk2
        dsimp only at hlk hlk2 hfr
        have hoL := Lib.hid (ho.trans (OnlyL.of_below (ms := msOf p rp rl (.slice (some ⟨g, 0, none⟩) k0 cg) (.slice (some ⟨gl, 0, none⟩) m cl)) hbL) (fun _ h => .inl h))
        replace hr := Lib.hid hr
        clear hP hrow hdr hcell hq hS ho hLn hbL
        cases hl : look labels lab with
        | none =>
          rw [hl] at hlk hlk2
          dsimp only [Option.map_none, Option.getD_none, Option.isSome_none] at hlk hlk2
          have hRR : Hid (R = .error ln) := by
            have := hr.out
            unfold leadL at this
            dsimp only at this
            rw [hl] at this
            exact Lib.hid this.symm
          clear hl hr
          go_wp2_with fail
          go_region
          all_goals
            go_wp2
            go_ret2
            refine ⟨_, ⟨by rw [hRR.out]; rfl, _, hPL.out.raw, hoL.out.trans (OnlyL.drew (OnlyL.refl _ _)) (fun _ h => .inl h), fun j hj => .inl hj⟩, fun l' hl => by rw [hRR.out] at hl; cases hl⟩
        | some a =>
          rw [hl] at hlk hlk2
          dsimp only [Option.map_some, Option.getD_some, Option.isSome_some] at hlk hlk2
          have hRR : Hid (leadL labels (ls.drop (j + 1)) (l.modify k (placed (a : Nat))) = R) := by
            have := hr.out
            unfold leadL at this
            dsimp only at this
            rw [hl] at this
            exact Lib.hid this
          obtain ⟨v0, hv0⟩ := flat5_at l k (by omega)
          have y3 : (wr.alloc (.cells #[.int .i64 (k : Nat), .int .i64 (ln : Nat), .string (S lab)] 84)).cell? ⟨g, k * 5 + 3, none⟩ = some v0 := by
            have h3 := hPL.out.2.2.2.2.1
            dsimp only at h3
            rw [hl0] at h3
            rw [World.ownsRow.cellAt h3 (k * 5 + 3) (by omega)]
            exact hv0
          have y4 : (wr.alloc (.cells #[.int .i64 (k : Nat), .int .i64 (ln : Nat), .string (S lab)] 84)).frozen? ⟨g, k * 5 + 3, none⟩ = false := by
            have h3 := hPL.out.2.2.2.2.1
            dsimp only at h3
            rw [hl0] at h3
            exact World.ownsRow.frozenAt h3 (k * 5 + 3)
          have hkI : (k : Int) < (k0 : Int) := by omega
          have hpt := Lib.hid (PartsAt.patch hPL.out k (by dsimp only; omega) (a : Nat))
          clear hl hr hv0
          go_wp2_with fail
          go_region
          all_goals
            go_wp2_with fail
            go_region
            all_goals
              go_wp2
              go_roundw
              case rel => exact ⟨j + 1, l.modify k (placed (a : Nat)), by omega, by go_num, ⟨hpt.out.1, by rw [List.length_modify]; exact hl0, hRR.out, ((hoL.out.trans hpt.out.2 (fun _ h => .inl h)).drew).drew⟩⟩
              case measure => simp [intOf]; omega
      · obtain rfl : j = m := by omega
        go_wp2
        go_ret2
        obtain ⟨hP, -, hr, ho⟩ := hS.out
        rw [List.drop_eq_nil_of_le (by rw [hn.out]; exact Nat.le_refl _)] at hr
        have hRR : R = .ok l := hr.symm
        refine ⟨_, ⟨by rw [hRR]; rfl, _, hP.raw, ho, fun j hj => .inl hj⟩, fun l' hl => by rw [hRR] at hl; cases hl; rfl⟩

end Go.Proofs.YtpnjhodpbjhmcaaGreatDoor.Il

namespace Go.Proofs.YtpnjhodpbjhmcaaGreatDoor.Il
open Go.RowKit Go.Sort
open Go.Proofs.YtpnjhodpbjhmcaaGreatDoor.Ic

/-! ### Words of a line, that lie in a new row -/
theorem cFieldsN (s : Bs) (hs : s.length ≤ 100000) (W : World) : Calls Tryz.prog 52 #[.string (S s), .func (.func 53) #[] #[]] W fun e w' =>
    ∃ g, e = .returned (.slice (some ⟨g, 0, none⟩) (fullB (splitB 32 s)).length (fullB (splitB 32 s)).length) ∧ TextsAt w' g (fullB (splitB 32 s)) ∧ W.heap.size ≤ g ∧ Below W.heap.size W w' := by
  refine (Tryz.strings_FieldsFunc 53 #[] (enters_of Tryz.func53 (by kernel_rfl) rfl) blankP (S s) W (by rw [S_size]; omega) (clo_pred W)).mono fun e w' ⟨A, h1, h2, h3, h4⟩ => ?_
  rw [fields_words, List.length_map] at h1 h3
  refine ⟨A, h1, fun j x hx => ?_, h2, h4⟩
  have hj := (List.getElem?_eq_some_iff.1 hx).1
  rw [World.ownsRow.cellAt h3 j (by omega)]
  simp [hx]
theorem cWordsN (s : Bs) (hs : s.length ≤ 100000) (W : World) (hE : Env W) : Calls Tryz.prog 21 #[.string (S s)] W fun e w' =>
    ∃ g, e = .returned (.slice (some ⟨g, 0, none⟩) (wordsB s).length (wordsB s).length) ∧ TextsAt w' g (wordsB s) ∧ W.heap.size ≤ g ∧ Below W.heap.size W w' := by
  have HC : Hid (∀ W, Env W → Calls Tryz.prog 51 #[.string (S s), .string ⟨#[59]⟩] W (Tells (cutV s 59) W)) := fun W hE => cCut s 59 hs W hE
  have hcl : (cutB 59 s).length ≤ 100000 := by
    unfold cutB
    have := (List.takeWhile_prefix (fun x => decide (x ≠ 59)) (l := s)).length_le
    omega
  have HF := Lib.hid (fun W => cFieldsN (cutB 59 s) hcl W)
  rw [← words_full] at HF
  unfold cutV at HC
  rw [cut_first] at HC
  have HE := Lib.hid hE
  clear hcl hs hE
  generalize S (cutB 59 s) = a at *
  generalize wordsB s = ws at *
  generalize S (Lib.cut s [59]).2.1 = b at *
  generalize (Lib.cut s [59]).2.2 = d at *
  go_enter Tryz.func21, Tryz.ntmps21
  go_wp2_with fail
  refine (HC.out _ HE.out).mono ?_
  rintro e w1 ⟨rfl, hb1⟩
  go_wp2_with fail
  refine (HF.out _).mono ?_
  rintro e w2 ⟨g, rfl, ht, hg, hb2⟩
  go_wp2
  go_ret
  exact ⟨g, rfl, ht, Nat.le_trans hb1.size hg, hb1.trans (hb2.mono hb1.size)⟩

/-! ### Plain -/
theorem parts_len (c : UInt8) : ∀ (s : Bs), (∀ l ∈ splitB c s, l.length ≤ s.length) ∧ (splitB c s).length ≤ s.length + 1
  | [] => ⟨fun l hl => by simp [splitB] at hl; subst hl; exact Nat.le_refl _, Nat.le_refl _⟩
  | x :: s => by
    obtain ⟨h1, h2⟩ := parts_len c s
    unfold splitB
    by_cases hx : x = c
    · rw [if_pos hx]
      refine ⟨fun l hl => ?_, by simpa using h2⟩
      rcases List.mem_cons.1 hl with rfl | hl
      · exact Nat.zero_le _
      · have := h1 l hl; simp; omega
    · rw [if_neg hx]
      cases hs : splitB c s with
      | nil => exact absurd hs (split_ne c s)
      | cons a b =>
        rw [hs] at h1 h2
        refine ⟨fun l hl => ?_, by simp at h2 ⊢; omega⟩
        rcases List.mem_cons.1 hl with rfl | hl
        · have := h1 a (by simp); simp; omega
        · have := h1 l (by simp [hl]); simp; omega
theorem words_len (s : Bs) : ∀ a ∈ wordsB s, a.length ≤ s.length := by
  intro a ha
  have h1 := (parts_len 32 (cutB 59 s)).1 a (List.mem_filter.1 ha).1
  have h2 : (cutB 59 s).length ≤ s.length := (List.takeWhile_prefix (fun x => decide (x ≠ 59)) (l := s)).length_le
  omega
theorem room_tell {st : Asm} (hf : Room200 st) (ws : List Bs) (ln : Nat) (h : tellE st ws = 0) : Room200 (tellS st ws ln) := by
  have hadd : ∀ (st : Asm) (ws : List Bs), Room200 st → addE st ws = 0 → Room200 (addS st ws ln) := fun st ws hf h => by
    unfold addS
    rw [if_pos h]
    refine ⟨?_, hf.2⟩
    unfold addE at h
    split at h
    · cases h
    split at h
    · cases h
    split at h
    · cases h
    · simp; omega
  match ws, h with
  | [], _ => exact hf
  | a :: rest, h =>
    unfold tellE at h
    unfold tellS
    dsimp only at h ⊢
    by_cases hv : a = [86, 65, 82]
    · rw [if_pos hv] at h ⊢
      unfold declS
      split
      · next b nm t pl hws =>
        rw [if_pos h]
        cases hp : placeC pl with
        | none => exact hf
        | some i =>
          refine ⟨hf.1, fun q hq => ?_⟩
          rcases List.mem_append.1 hq with hq | hq
          · exact hf.2 q hq
          · simp at hq
            rw [hq]
            unfold placeC at hp
            cases hp2 : placeB pl with
            | none => rw [hp2] at hp; cases hp
            | some j =>
              rw [hp2] at hp
              have h : (if thereB j.pl j.kd = true then some j else none) = some i := hp
              split at h
              · cases h; exact (place_op hp2).2.1
              · cases h
      · exact hf
    · rw [if_neg hv] at h ⊢
      by_cases hm : (cutSuf a 58).2 = true ∧ nameB (cutSuf a 58).1 = true
      · rw [if_pos hm] at h ⊢
        split at h
        · cases h
        split at h
        · next hr => rw [if_pos hr]; exact hf.mark _
        · next hr => rw [if_neg hr]; exact hadd _ _ (hf.mark _) h
      · rw [if_neg hm] at h ⊢
        exact hadd _ _ hf h
theorem jumps_len (labels : List (Bs × Nat)) : ∀ (cs : List (In × Bs × Nat)) (l : List In), jumpsB labels cs = .ok l → l.length = cs.length
  | [], l, h => by cases h; rfl
  | (i, lab, ln) :: r, l, h => by
    have ih := jumps_len labels r
    rw [jumps_cons] at h
    split at h
    · cases hr : jumpsB labels r with
      | ok l' => rw [hr] at h; cases h; simp [ih _ hr]
      | error e => rw [hr] at h; cases h
    · split at h
      · cases h
      · cases hr : jumpsB labels r with
        | ok l' => rw [hr] at h; cases h; simp [ih _ hr]
        | error e => rw [hr] at h; cases h
theorem lines_step (st : Asm) (ln : Nat) (ws : List Bs) (r : List (Nat × List Bs)) : linesB st ((ln, ws) :: r) = if tellE st ws = 0 then linesB (tellS st ws ln) r else .error (tellE st ws, ln) := by
  show (match lineB st ws ln with | .error e => Except.error (e, ln) | .ok st' => linesB st' r) = _
  rw [line_is]
  unfold exc
  by_cases h : tellE st ws = 0
  · rw [if_pos h, if_pos h]
  · rw [if_neg h, if_neg h]
/-- The row of a program's instructions, as it is answered. -/
theorem row_lies {w : World} {v : Value} {l : List In} (h : w.ownsRow 0 34 5 v l.length (flat5 l)) : ∃ ao cap, v = .slice ao l.length cap ∧ Lies w w.heap.size ao l := by
  rcases h.2 with ⟨rfl, h0⟩ | ⟨g, cap, cur, rfl, hb, hg, _⟩
  · exact ⟨none, 0, by rw [h0], fun h1 => by omega⟩
  · refine ⟨_, _, rfl, fun _ => ⟨g, 0, rfl, (Array.getElem?_eq_some_iff.1 hg).1, fun i x hx => ?_⟩⟩
    have hc := fun j (hj : j < l.length * 5) => World.ownsRow.cellAt h j hj
    have hi := (List.getElem?_eq_some_iff.1 hx).1
    have hf : ∀ (l : List In) (i j : Nat) (x : In), l[i]? = some x → j < 5 → (flat5 l)[i * 5 + j]? = (cells5 x)[j]? := by
      intro l
      induction l with
      | nil => intro i j x h; simp at h
      | cons y l ih =>
        intro i j x hx hj
        cases i with
        | zero =>
          simp at hx
          subst hx
          show (cells5 y ++ flat5 l)[0 * 5 + j]? = _
          rw [Nat.zero_mul, Nat.zero_add, List.getElem?_append_left hj]
        | succ i =>
          show (cells5 y ++ flat5 l)[(i + 1) * 5 + j]? = _
          rw [List.getElem?_append_right (by show 5 ≤ _; omega), show (i + 1) * 5 + j - (cells5 y).length = i * 5 + j by show (i + 1) * 5 + j - 5 = _; omega, ih i j x (by simpa using hx) hj]
    simp only [Nat.zero_add]
    refine ⟨?_, ?_, ?_, ?_, ?_⟩
    · rw [show i * 5 = i * 5 + 0 from rfl, hc _ (by omega), hf l i 0 x hx (by decide)]; rfl
    · rw [hc _ (by omega), hf l i 1 x hx (by decide)]; rfl
    · rw [hc _ (by omega), hf l i 2 x hx (by decide)]; rfl
    · rw [hc _ (by omega), hf l i 3 x hx (by decide)]; rfl
    · rw [hc _ (by omega), hf l i 4 x hx (by decide)]; rfl

/-- How far the lines have come. -/
structure Inv (N p gl : Nat) (lines : List Bs) (w wr : World) (st : Asm) (ms : List Nat) : Prop where
  raw : RawAt wr p ms (rawOf st)
  fine : Room200 st
  up : ∀ x ∈ ms, N ≤ x
  out : gl ∉ ms
  txt : TextsAt wr gl lines
  env : Env wr
  below : Below N w wr
  size : N ≤ wr.heap.size
  glt : gl < wr.heap.size
theorem TextsAt.only {w w' : World} {g : Nat} {L : List Bs} {ms : List Nat} (h : TextsAt w g L) (hb : OnlyL ms w w') (hg : g ∉ ms) : TextsAt w' g L := fun j x hx => hb.cell hg (h j x hx)
theorem Inv.next {N p gl : Nat} {lines : List Bs} {w wr w2 w3 : World} {st st' : Asm} {ms ns : List Nat} (h : Inv N p gl lines w wr st ms) (hN : 0 < N ∧ 1 < N) (hb : Below wr.heap.size wr w2) (ho : OnlyL ms w2 w3) (hr : RawAt w3 p ns (rawOf st')) (hn : ∀ j ∈ ns, j ∈ ms ∨ w2.heap.size ≤ j) (hf : Room200 st') : Inv N p gl lines w w3 st' ns := by
  have hb3 : Below N w2 w3 := ho.below h.up (Nat.le_trans h.size hb.size)
  have hbN : Below N wr w3 := (hb.mono h.size).trans hb3
  have hs := hb.size
  have hs3 := ho.size
  have hsz := h.size
  have hg := h.glt
  exact ⟨hr, hf, fun x hx => (hn x hx).elim (h.up x) fun h' => by omega, fun hm => (hn gl hm).elim h.out fun h' => by omega, (h.txt.kept hb).only ho h.out, h.env.belowN hN hbN, h.below.trans hbN, by omega, by omega⟩
theorem start_inv (w : World) (N : Nat) (hN : w.heap.size = N) : RawAt (((w.alloc (.map #[] 0)).alloc (.map #[] 0)).alloc (.cells #[.map (some N), .map (some (N + 1)), .slice none 0 0, .slice none 0 0] 55)) (N + 1 + 1) [N + 1 + 1, N, N + 1] (rawOf ⟨[], [], []⟩) := by
  subst hN
  have s1 : (w.alloc (.map #[] 0)).heap.size = w.heap.size + 1 := by simp
  have s2 : ((w.alloc (.map #[] 0)).alloc (.map #[] 0)).heap.size = w.heap.size + 1 + 1 := by simp
  have e0 : (w.alloc (.map #[] 0)).heap[w.heap.size]? = some (.map #[] 0) := heap_alloc_new w _
  have e1 : ((w.alloc (.map #[] 0)).alloc (.map #[] 0)).heap[w.heap.size + 1]? = some (.map #[] 0) := by
    have := heap_alloc_new (w.alloc (.map #[] 0)) (.map #[] 0)
    rw [s1] at this; exact this
  have b1 := (Below.refl (w.alloc (.map #[] 0)).heap.size (w.alloc (.map #[] 0))).alloc (Nat.le_refl _) (.map #[] 0)
  have e0' := (b1.block w.heap.size (by rw [s1]; omega)).trans e0
  have b2 := (Below.refl ((w.alloc (.map #[] 0)).alloc (.map #[] 0)).heap.size ((w.alloc (.map #[] 0)).alloc (.map #[] 0))).alloc (Nat.le_refl _) (.cells #[.map (some w.heap.size), .map (some (w.heap.size + 1)), .slice none 0 0, .slice none 0 0] 55)
  have e0'' := (b2.block w.heap.size (by rw [s2]; omega)).trans e0'
  have e1'' := (b2.block (w.heap.size + 1) (by rw [s2]; omega)).trans e1
  have e2 := heap_alloc_new ((w.alloc (.map #[] 0)).alloc (.map #[] 0)) (.cells #[.map (some w.heap.size), .map (some (w.heap.size + 1)), .slice none 0 0, .slice none 0 0] 55)
  rw [s2] at e2
  exact ⟨w.heap.size, w.heap.size + 1, .slice none 0 0, .slice none 0 0, rfl, by omega, e2, ⟨_, _, e0'', rfl⟩, ⟨_, _, e1'', rfl⟩, World.ownsRow_nil _ _ _ _, World.ownsRow_nil _ _ _ _⟩

set_option maxRecDepth 100000 in
set_option maxHeartbeats 1000000 in
theorem cAsm (t : Bs) (ht : t.length ≤ 4000) (w : World) (hE : Env w) : Calls Tryz.prog 7 #[.string (S t)] w (Asms t w) := by
  have hsz := S_size t
  have hsI : ((S t).size : Int) ≤ 4000 := by omega
  have HS := fun W hE => cSplit t 10 (by omega) W hE
  have hmm := @run_makeMap Tryz.prog
  have hg0 := env_size hE
  have hE0 := hE
  unfold Asms
  generalize hNN : w.heap.size = N at *
  have hW3 : (((w.alloc (.map #[] 0)).alloc (.map #[] 0)).alloc (.cells #[.map (some N), .map (some (N + 1)), .slice none 0 0, .slice none 0 0] 55)).heap.size = N + 3 := by simp [hNN]
  have hb3 : Below N w (((w.alloc (.map #[] 0)).alloc (.map #[] 0)).alloc (.cells #[.map (some N), .map (some (N + 1)), .slice none 0 0, .slice none 0 0] 55)) := by rw [← hNN]; exact (((Below.refl _ _).alloc (Nat.le_refl _) _).alloc (by simp) _).alloc (by simp; omega) _
  have hE3 : Env (((w.alloc (.map #[] 0)).alloc (.map #[] 0)).alloc (.cells #[.map (some N), .map (some (N + 1)), .slice none 0 0, .slice none 0 0] 55)) := hE0.belowN hg0 hb3
  have HS3 : Hid (Calls Tryz.prog 19 #[.string (S t), .string ⟨#[10]⟩] (((w.alloc (.map #[] 0)).alloc (.map #[] 0)).alloc (.cells #[.map (some N), .map (some (N + 1)), .slice none 0 0, .slice none 0 0] 55)) fun e w' =>
      e = .returned (.slice (some ⟨N + 3, 0, none⟩) (splitB 10 t).length (splitB 10 t).length) ∧ TextsAt w' (N + 3) (splitB 10 t) ∧ N + 3 < w'.heap.size ∧ Below (N + 3) (((w.alloc (.map #[] 0)).alloc (.map #[] 0)).alloc (.cells #[.map (some N), .map (some (N + 1)), .slice none 0 0, .slice none 0 0] 55)) w') := by
    have := HS (((w.alloc (.map #[] 0)).alloc (.map #[] 0)).alloc (.cells #[.map (some N), .map (some (N + 1)), .slice none 0 0, .slice none 0 0] 55)) hE3
    rw [hW3] at this
    exact this
  have hst := start_inv w N hNN
  have hasm : Hid (asmB t = (match linesB ⟨[], [], []⟩ (numbered 1 (splitB 10 t)) with | .error e => .error e | .ok st => jumpsB st.labels st.code)) := by
    unfold asmB
    rw [if_neg (by omega)]
    exact Lib.hid rfl
  have hpl := parts_len 10 t
  have hll : Hid (∀ l ∈ splitB 10 t, l.length ≤ 100000) := fun l hl => by have := hpl.1 l hl; omega
  have hlm : (splitB 10 t).length ≤ 4001 := by have := hpl.2; omega
  replace hst := Lib.hid hst
  replace hb3 := Lib.hid hb3
  replace hE3 := Lib.hid hE3
  replace hW3 := Lib.hid hW3
  generalize asmB t = R at *
  generalize hR0 : linesB ⟨[], [], []⟩ (numbered 1 (splitB 10 t)) = R0 at *
  replace hR0 : Hid (linesB ⟨[], [], []⟩ (numbered 1 (splitB 10 t)) = R0) := hR0
  clear hpl HS hE0 hE ht
  generalize splitB 10 t = lines at *
  generalize S t = stx at *
  generalize t.length = tl at *
  obtain ⟨m, hm⟩ : ∃ m, m = lines.length := ⟨_, rfl⟩
  rw [← hm] at HS3 hlm
  replace hm := Lib.hid hm
  go_enter Tryz.func7, Tryz.ntmps7
  go_wp2_with fail
  refine HS3.out.mono ?_
  rintro e w1 ⟨rfl, hT, hsz1, hb1⟩
  have hI1 : Hid (Inv N (N + 1 + 1) (N + 3) lines w w1 ⟨[], [], []⟩ [N + 1 + 1, N, N + 1]) :=
    ⟨hst.out.below (by rw [hW3.out]; exact hb1), ⟨Nat.zero_le _, fun q hq => by cases hq⟩, fun x hx => by simp at hx; omega, fun hx => by simp at hx, hT, hE3.out.belowN hg0 (hb1.mono (by omega)), hb3.out.trans (hb1.mono (by omega)), by omega, hsz1⟩
  clear hT hsz1 hb1 hst hb3 hE3 hW3 HS3
  go_wp2
  go_loopw [20] (fun q wr => ∃ (j : Nat) (st : Asm) (ms : List Nat), j ≤ m ∧ q = .int .i64 j ∧ Hid (Inv N (N + 1 + 1) (N + 3) lines w wr st ms ∧ linesB st (numbered (j + 1) (lines.drop j)) = R0)) (fun q _ => m - (intOf q).toNat)
  case atStart => exact ⟨0, _, _, by omega, rfl, ⟨hI1.out, hR0.out⟩⟩
  case round =>
    obtain ⟨j, st, ms, hj, rfl, hS⟩ := hrel
    by_cases hlt : j < m
    · have hI : (j : Int) < (m : Int) := by omega
      obtain ⟨x, hx⟩ : ∃ x, lines[j]? = some x := ⟨_, List.getElem?_eq_getElem (by rw [← hm.out]; exact hlt)⟩
      obtain ⟨hV, hr⟩ := hS.out
      have hdr : lines.drop j = x :: lines.drop (j + 1) := by
        have hjl : j < lines.length := by rw [← hm.out]; exact hlt
        rw [List.getElem?_eq_getElem hjl] at hx
        rw [List.drop_eq_getElem_cons hjl, Option.some.inj hx]
      have hxl := hll.out x (List.mem_of_getElem? hx)
      have e0 := hV.txt j x hx
      have HW := Lib.hid (cWordsN x hxl wr hV.env)
      rw [hdr] at hr
      have hr2 : linesB st ((j + 1, wordsB x) :: numbered (j + 1 + 1) (lines.drop (j + 1))) = R0 := hr
      rw [lines_step] at hr2
      have hwl : Hid (∀ a ∈ wordsB x, a.length ≤ 100000) := fun a ha => by have := words_len x a ha; omega
      replace hV := Lib.hid hV
      clear hr hdr hx hS hxl
      generalize S x = sx at *
      generalize wordsB x = ws at *
      by_cases he : tellE st ws = 0
      · rw [if_pos he] at hr2
        replace hr2 := Lib.hid hr2
        have hfn := Lib.hid (room_tell hV.out.fine ws (j + 1) he)
        go_wp2_with fail
        refine HW.out.mono ?_
        rintro e w2 ⟨g, rfl, htx, hgs, hb2⟩
        have HT : Hid (Calls Tryz.prog 20 #[.pointer (some ⟨N + 1 + 1, 0, none⟩), .slice (some ⟨g, 0, none⟩) ws.length ws.length, .int .i64 ((j : Int) + 1)] w2 (Told (N + 1 + 1) ms st ws (j + 1) w2)) :=
          cTell N (N + 1 + 1) ms st g 0 ws.length (j + 1) ws w2 (hV.out.raw.below hb2) hV.out.fine (fun i y hy => ⟨by rw [Nat.zero_add]; exact htx i y hy, hwl.out y (List.mem_of_getElem? hy)⟩) (hV.out.env.below hb2) hg0 hV.out.up (Nat.le_trans hV.out.size hb2.size) (fun hm => by have := hV.out.raw.lt g hm; omega) (Nat.le_refl _)
        unfold Told at HT
        rw [he] at HT
        replace hb2 := Lib.hid hb2
        clear htx hgs HW
        go_wp2_with fail
        refine HT.out.mono ?_
        rintro e w3 ⟨x', ⟨rfl, ns, hr3, ho3, hn3⟩, hx'⟩
        rw [hx' trivial] at hr3
        have hV3 := Lib.hid (hV.out.next hg0 hb2.out ho3 hr3 hn3 hfn.out)
        clear hr3 ho3 hn3 hx' HT hb2 hV
        go_wp2
        go_roundw
        case rel => exact ⟨j + 1, _, _, by omega, by go_num, ⟨hV3.out, hr2.out⟩⟩
        case measure => simp [intOf]; omega
      · rw [if_neg he] at hr2
        have hRR : Hid (R = .error (tellE st ws, j + 1)) := by rw [hasm.out, ← hr2]; exact Lib.hid rfl
        have hne : ¬ ((tellE st ws : Nat) : Int) = 0 := by omega
        clear hr2 he
        go_wp2_with fail
        refine HW.out.mono ?_
        rintro e w2 ⟨g, rfl, htx, hgs, hb2⟩
        have HT : Hid (Calls Tryz.prog 20 #[.pointer (some ⟨N + 1 + 1, 0, none⟩), .slice (some ⟨g, 0, none⟩) ws.length ws.length, .int .i64 ((j : Int) + 1)] w2 (Told (N + 1 + 1) ms st ws (j + 1) w2)) :=
          cTell N (N + 1 + 1) ms st g 0 ws.length (j + 1) ws w2 (hV.out.raw.below hb2) hV.out.fine (fun i y hy => ⟨by rw [Nat.zero_add]; exact htx i y hy, hwl.out y (List.mem_of_getElem? hy)⟩) (hV.out.env.below hb2) hg0 hV.out.up (Nat.le_trans hV.out.size hb2.size) (fun hm => by have := hV.out.raw.lt g hm; omega) (Nat.le_refl _)
        unfold Told at HT
        replace hb2 := Lib.hid hb2
        clear htx hgs HW
        generalize tellE st ws = e5 at *
        go_wp2_with fail
        refine HT.out.mono ?_
        rintro e w3 ⟨x', ⟨rfl, ns, hr3, ho3, hn3⟩, hx'⟩
        have hbf : Hid (Below N w w3) := (hV.out.below.trans (hb2.out.mono hV.out.size)).trans (ho3.below hV.out.up (Nat.le_trans hV.out.size hb2.out.size))
        clear hr3 ho3 hn3 hx' HT hb2 hV
        go_wp2
        go_ret3
        rw [hRR.out]
        exact ⟨none, 0, rfl, fun h => by simp [codeOf] at h, by simp [codeOf], hbf.out⟩
    · obtain rfl : j = m := by omega
      obtain ⟨hV, hr⟩ := hS.out
      rw [List.drop_eq_nil_of_le (by rw [← hm.out]; exact Nat.le_refl _)] at hr
      have hr2 : R0 = .ok st := hr.symm
      have hRR : Hid (R = jumpsB st.labels st.code) := by rw [hasm.out, hr2]; exact Lib.hid rfl
      have HL := Lib.hid (cLead (N + 1 + 1) ms st wr hV.raw hV.fine)
      have hlj := lead_jumps st.labels st.code []
      rw [List.nil_append] at hlj
      have hlj2 : leadL st.labels (leapsOf 0 st.code) (st.code.map (·.1)) = outJ [] (jumpsB st.labels st.code) := hlj
      unfold Led at HL
      rw [hlj2] at HL
      have hjl := Lib.hid (fun l (h : jumpsB st.labels st.code = .ok l) => jumps_len st.labels st.code l h)
      have hje := Lib.hid (fun q (h : jumpsB st.labels st.code = .error q) => jumps_err st.labels st.code q h)
      replace hV := Lib.hid hV
      clear hr hr2 hlj hlj2 hS
      cases hjj : jumpsB st.labels st.code with
      | error q =>
        rw [hjj] at HL hRR
        have h5 := Lib.hid (hje.out q hjj)
        have HL2 : Hid (Calls Tryz.prog 22 #[.pointer (some ⟨N + 1 + 1, 0, none⟩)] wr fun e w' => ∃ x, Done (N + 1 + 1) ms (.tuple #[.int .i64 (q.2 : Nat), .bool false]) x wr e w') := HL.out.mono fun e w' ⟨x, h, _⟩ => ⟨x, h⟩
        clear HL hjl hje hjj
        go_wp2_with fail
        refine HL2.out.mono ?_
        rintro e w3 ⟨x', rfl, ns, hr3, ho3, hn3⟩
        have hbf : Hid (Below N w w3) := hV.out.below.trans (ho3.below hV.out.up hV.out.size)
        clear hr3 ho3 hn3 HL2 hV
        go_wp2
        go_ret3
        rw [hRR.out]
        refine ⟨none, 0, ?_, fun h => by simp [codeOf] at h, by simp [codeOf], hbf.out⟩
        show _ = Ending.returned (.tuple #[.slice none 0 0, .int .i64 (q.1 : Nat), .int .i64 (q.2 : Nat)])
        rw [h5.out]
        rfl
      | ok l =>
        rw [hjj] at HL hRR
        have h2 := Lib.hid (hjl.out l hjj)
        have HL2 : Hid (Calls Tryz.prog 22 #[.pointer (some ⟨N + 1 + 1, 0, none⟩)] wr fun e w' => Done (N + 1 + 1) ms (.tuple #[.int .i64 0, .bool true]) ⟨st.places, st.labels, l, leapsOf 0 st.code⟩ wr e w') := HL.out.mono fun e w' ⟨x, h, hx⟩ => by
          rw [hx ([] ++ l) rfl] at h
          exact h
        clear HL hjl hje hjj
        go_wp2_with fail
        refine HL2.out.mono ?_
        rintro e w3 ⟨rfl, ns, hr3, ho3, hn3⟩
        have hbf : Hid (Below N w w3) := hV.out.below.trans (ho3.below hV.out.up hV.out.size)
        obtain ⟨rp, rl, cv, lv, -, HP⟩ := hr3
        replace HP : PartsAt w3 (N + 1 + 1) rp rl cv lv _ := HP
        obtain ⟨c0, c1, c2, c3, -⟩ := RawAt.cells HP.2.1
        have hrow := HP.2.2.2.2.1
        dsimp only at hrow
        obtain ⟨ao, cap, rfl, hli⟩ := row_lies hrow
        replace hli := Lib.hid hli
        have hfi := Lib.hid hV.out.fine.1
        clear ho3 hn3 HL2 hV HP hrow c0 c1 c3
        go_wp2
        go_ret3
        rw [hRR.out]
        exact ⟨ao, cap, rfl, hli.out, by show l.length ≤ 200; rw [h2.out]; exact hfi.out, hbf.out⟩

end Go.Proofs.YtpnjhodpbjhmcaaGreatDoor.Il

namespace Go.Proofs.YtpnjhodpbjhmcaaGreatDoor.Il
open Go.RowKit
open Go.Proofs.YtpnjhodpbjhmcaaGreatDoor.Ic

theorem the_code : Code noB where
  op := fun _ s w _ _ _ => cOp_any s w
  right := fun _ i w _ _ hf => cRight_any i hf.2.2.2.2 w
  spell := fun _ i w h _ hf => cSpell_any i hf.2.2.2.2 w h.1
  asm := fun _ t w h _ ht => cAsm t ht w h.1

end Go.Proofs.YtpnjhodpbjhmcaaGreatDoor.Il
