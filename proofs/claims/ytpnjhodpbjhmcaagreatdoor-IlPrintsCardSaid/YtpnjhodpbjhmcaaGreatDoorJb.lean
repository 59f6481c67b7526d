/-
  The landed program: declare and add, walked. Conditions: that its object and the words lie there; at most 200 instructions so far.
-/
import Derived.Test.YtpnjhodpbjhmcaaGreatDoorJa
import Derived.Deep.RegionLaw
import Derived.BigRegion
namespace Go.Proofs.YtpnjhodpbjhmcaaGreatDoor.Il
open Go.RowKit
open Go.Proofs.YtpnjhodpbjhmcaaGreatDoor.Ic

/-! ### The object, by what was assembled -/
def leapsOf : Nat → List (In × Bs × Nat) → List (Nat × Nat × Bs)
  | _, [] => []
  | k, q :: r => (if q.2.1 = [] then [] else [(k, q.2.2, q.2.1)]) ++ leapsOf (k + 1) r
def rawOf (st : Asm) : Raw := ⟨st.places, st.labels, st.code.map (·.1), leapsOf 0 st.code⟩
theorem leaps_app (a b : List (In × Bs × Nat)) : ∀ k, leapsOf k (a ++ b) = leapsOf k a ++ leapsOf (k + a.length) b := by
  induction a with
  | nil => intro k; rfl
  | cons q a ih =>
    intro k
    show _ ++ leapsOf (k + 1) (a ++ b) = (_ ++ leapsOf (k + 1) a) ++ _
    rw [ih, List.append_assoc, List.length_cons, show k + 1 + a.length = k + (a.length + 1) by omega]
theorem Done.from {w X w' : World} {p : Nat} {ms : List Nat} {v : Value} {x : Raw} {e : Ending} (hb : Below w.heap.size w X) (h : Done p ms v x X e w') : Done p ms v x w e w' := by
  obtain ⟨he, ns, hr, ho, hn⟩ := h
  exact ⟨he, ns, hr, (OnlyL.of_below hb).trans ho fun j hj => .inl hj, fun j hj => (hn j hj).imp id fun h => Nat.le_trans hb.size h⟩
theorem str_is {a b : Bs} (h : a = b) : (S a).toList = b := by rw [toL, h]

set_option maxRecDepth 100000 in
set_option maxHeartbeats 400000 in
theorem cDecl (p : Nat) (ms : List Nat) (st : Asm) (g o c : Nat) (ws : List Bs) (w : World) (h : RawAt w p ms (rawOf st)) (hw : RowS w g o ws) (hE : Env w) :
    Calls Tryz.prog 46 #[.pointer (some ⟨p, 0, none⟩), .slice (some ⟨g, o, none⟩) ws.length c] w (Done p ms (.int .i64 (declE st ws : Nat)) (rawOf (declS st ws)) w) := by
  by_cases hn : ws.length = 4
  · obtain ⟨a, nm, t, pl, rfl⟩ : ∃ a b c d, ws = [a, b, c, d] := by
      match ws, hn with
      | [a, b, c, d], _ => exact ⟨a, b, c, d, rfl⟩
    have e1 := hw.tail.head.1
    have e2 := hw.tail.tail.head.1
    have e3 := hw.tail.tail.tail.head.1
    have l1 := hw.tail.head.2
    have l3 := hw.tail.tail.tail.head.2
    have HN := Lib.hid (fun W => cIsName nm l1 W)
    have HP := Lib.hid (fun W hE => cPlace pl l3 W hE)
    have hX := Lib.hid h
    have hE0 := Lib.hid hE
    simp only [List.length_cons, List.length_nil, Nat.zero_add, Nat.reduceAdd, Nat.add_assoc] at e1 e2 e3 ⊢
    replace e3 := Lib.hid e3
    cases hnm : nameB nm with
    | false =>
      rw [hnm] at HN
      have hd : declE st [a, nm, t, pl] = 4 := by unfold declE; dsimp only; rw [hnm, if_neg (fun h => by cases h.1)]
      have hs : declS st [a, nm, t, pl] = st := by unfold declS; dsimp only; rw [hd, if_neg (by decide)]
      rw [hd, hs]
      clear hd hs hnm hw h hE l1 l3 hn
      generalize S nm = sn at *
      go_enter Tryz.func46, Tryz.ntmps46
      go_wp2_with fail
      refine (HN.out _).mono ?_
      rintro e w1 ⟨rfl, hb1⟩
      go_wp2
      go_ret
      exact Done.same hX.out hb1
    | true =>
      rw [hnm] at HN
      by_cases ht : t = [65, 84]
      · have q2 := str_is ht
        have k1 := Lib.hid e1
        have k2 := Lib.hid e2
        unfold plcV at HP
        cases hpc : placeC pl with
        | none =>
          rw [hpc] at HP
          have hd : declE st [a, nm, t, pl] = 4 := by unfold declE; dsimp only; rw [hnm, if_pos ⟨rfl, ht⟩, hpc]
          have hs : declS st [a, nm, t, pl] = st := by unfold declS; dsimp only; rw [hd, if_neg (by decide)]
          rw [hd, hs]
          unfold insV at HP
          clear e2 hd hs hnm hw h hE l1 l3 hn ht hpc
          generalize S nm = sn at *
          generalize S t = sm at *
          generalize S pl = sp at *
          go_enter Tryz.func46, Tryz.ntmps46
          go_wp2_with fail
          refine (HN.out _).mono ?_
          rintro e w1 ⟨rfl, hb1⟩
          have d2 := kept_cell hb1 k2.out
          have d3 := kept_cell hb1 e3.out
          have hE1 := Lib.hid (hE0.out.below hb1)
          replace hb1 := Lib.hid hb1
          go_wp2_with fail
          refine (HP.out _ hE1.out).mono ?_
          rintro e w2 ⟨rfl, hb2⟩
          replace hb2 := Lib.hid hb2
          go_wp2
          go_ret
          exact Done.same hX.out ((hb1.out.trans (hb2.out.mono hb1.out.size)).alloc (Nat.le_trans hb1.out.size hb2.out.size) _)
        | some i =>
          rw [hpc] at HP
          obtain ⟨rp, rl, cv, lv, hms, hne, hp, h1, h2, h3, h4⟩ := h
          obtain ⟨c0, -, -, -, -⟩ := RawAt.cells hp
          have c0 := Lib.hid c0
          have M1 := Lib.hid h1
          cases hl : look st.places nm with
          | some j =>
            have hd : declE st [a, nm, t, pl] = 5 := by unfold declE; dsimp only; rw [hnm, if_pos ⟨rfl, ht⟩, hpc, hl]; rfl
            have hs : declS st [a, nm, t, pl] = st := by unfold declS; dsimp only; rw [hd, if_neg (by decide)]
            rw [hd, hs]
            have hL := Lib.hid hl
            unfold insV at HP
            clear e2 hd hs hnm hw hE l1 l3 hn ht hpc h1 h2 h3 h4 hp hne hl
            generalize hsn : S nm = sn at *
            generalize S t = sm at *
            generalize S pl = sp at *
            go_enter Tryz.func46, Tryz.ntmps46
            go_wp2_with fail
            refine (HN.out _).mono ?_
            rintro e w1 ⟨rfl, hb1⟩
            have d2 := kept_cell hb1 k2.out
            have d3 := kept_cell hb1 e3.out
            have hE1 := Lib.hid (hE0.out.below hb1)
            replace hb1 := Lib.hid hb1
            go_wp2_with fail
            refine (HP.out _ hE1.out).mono ?_
            rintro e w2 ⟨rfl, hb2⟩
            have hb3 := Lib.hid ((hb1.out.trans (hb2.mono hb1.out.size)).alloc (Nat.le_trans hb1.out.size hb2.size) (.cells #[.int .i64 i.op, .int .i64 i.kd, .int .i64 i.ar, .int .i64 i.pl, .int .i64 i.n] 34))
            have hb4 := Lib.hid (hb3.out.alloc (by have := hb3.out.size; omega) (.cells #[.int .i64 0, .int .i64 0, .int .i64 0, .int .i64 0, .int .i64 0] 34))
            have f0 := kept_cell hb4.out c0.out
            have f1 := kept_cell hb4.out k1.out
            have g0 := kept_cell hb3.out c0.out
            have g1 := kept_cell hb3.out k1.out
            have MX := fun (W : World) (hW : W.heap[rp]? = w.heap[rp]?) => (by
              have := run_look (w := W) (map_of M1.out hW) nm (mty := 51) Tryz.underlying51 Tryz.underlying9 (zero_ins _)
              have hLL : look (rawOf st).places nm = some j := hL.out
              rw [look_places, hLL, hsn] at this
              exact this : (Instr.lookup 51 (.map (some rp)) (.string sn) true).run Tryz.prog W = .ok (.tuple #[insV j, .bool true]) W)
            unfold insV at MX
            have m1 := MX _ (hb3.out.block rp (map_lt M1.out))
            have m2 := MX _ (hb4.out.block rp (map_lt M1.out))
            have m3 := MX _ (show ((w2.alloc (.cells #[.int .i64 i.op, .int .i64 i.kd, .int .i64 i.ar, .int .i64 i.pl, .int .i64 i.n] 34)).drew).heap[rp]? = _ from hb3.out.block rp (map_lt M1.out))
            have m4 := MX _ (show (((w2.alloc (.cells #[.int .i64 i.op, .int .i64 i.kd, .int .i64 i.ar, .int .i64 i.pl, .int .i64 i.n] 34)).alloc (.cells #[.int .i64 0, .int .i64 0, .int .i64 0, .int .i64 0, .int .i64 0] 34)).drew).heap[rp]? = _ from hb4.out.block rp (map_lt M1.out))
            clear MX d2 d3 hb2
            go_wp2_with fail
            go_region
            all_goals
              go_wp2
              go_ret
              exact Done.same hX.out ((hb3.out.alloc (by have := hb3.out.size; omega) _).drew)
          | none =>
            have hd : declE st [a, nm, t, pl] = 0 := by unfold declE; dsimp only; rw [hnm, if_pos ⟨rfl, ht⟩, hpc, hl]; rfl
            have hs : declS st [a, nm, t, pl] = ⟨st.code, st.places ++ [(nm, i)], st.labels⟩ := by unfold declS; dsimp only; rw [hd, if_pos rfl, hpc]
            rw [hd, hs]
            have hL := Lib.hid hl
            have HH := Lib.hid (⟨hne, hp, h1, h2, h3, h4⟩ : _ ∧ _ ∧ _ ∧ _ ∧ _ ∧ _)
            subst hms
            unfold insV at HP
            clear e2 hd hs hnm hw hE l1 l3 hn ht hpc h1 h2 h3 h4 hp hne hl hX
            generalize hsn : S nm = sn at *
            generalize S t = sm at *
            generalize S pl = sp at *
            go_enter Tryz.func46, Tryz.ntmps46
            go_wp2_with fail
            refine (HN.out _).mono ?_
            rintro e w1 ⟨rfl, hb1⟩
            have d2 := kept_cell hb1 k2.out
            have d3 := kept_cell hb1 e3.out
            have hE1 := Lib.hid (hE0.out.below hb1)
            replace hb1 := Lib.hid hb1
            go_wp2_with fail
            refine (HP.out _ hE1.out).mono ?_
            rintro e w2 ⟨rfl, hb2⟩
            have hb3 := Lib.hid ((hb1.out.trans (hb2.mono hb1.out.size)).alloc (Nat.le_trans hb1.out.size hb2.size) (.cells #[.int .i64 i.op, .int .i64 i.kd, .int .i64 i.ar, .int .i64 i.pl, .int .i64 i.n] 34))
            have hb4 := Lib.hid (hb3.out.alloc (by have := hb3.out.size; omega) (.cells #[.int .i64 0, .int .i64 0, .int .i64 0, .int .i64 0, .int .i64 0] 34))
            have f0 := kept_cell hb4.out c0.out
            have f1 := kept_cell hb4.out k1.out
            have g0 := kept_cell hb3.out c0.out
            have g1 := kept_cell hb3.out k1.out
            have MX := fun (W : World) (hW : W.heap[rp]? = w.heap[rp]?) => (by
              have := run_look (w := W) (map_of M1.out hW) nm (mty := 51) Tryz.underlying51 Tryz.underlying9 (zero_ins _)
              have hLL : look (rawOf st).places nm = none := hL.out
              rw [look_places, hLL, hsn] at this
              exact this : (Instr.lookup 51 (.map (some rp)) (.string sn) true).run Tryz.prog W = .ok (.tuple #[insV ⟨0, 0, 0, 0, 0⟩, .bool false]) W)
            unfold insV at MX
            have m1 := MX _ (hb3.out.block rp (map_lt M1.out))
            have m2 := MX _ (hb4.out.block rp (map_lt M1.out))
            have m3 := MX _ (show ((w2.alloc (.cells #[.int .i64 i.op, .int .i64 i.kd, .int .i64 i.ar, .int .i64 i.pl, .int .i64 i.n] 34)).drew).heap[rp]? = _ from hb3.out.block rp (map_lt M1.out))
            have m4 := MX _ (show (((w2.alloc (.cells #[.int .i64 i.op, .int .i64 i.kd, .int .i64 i.ar, .int .i64 i.pl, .int .i64 i.n] 34)).alloc (.cells #[.int .i64 0, .int .i64 0, .int .i64 0, .int .i64 0, .int .i64 0] 34)).drew).heap[rp]? = _ from hb4.out.block rp (map_lt M1.out))
            have MX2 : MapAt ((w2.alloc (.cells #[.int .i64 i.op, .int .i64 i.kd, .int .i64 i.ar, .int .i64 i.pl, .int .i64 i.n] 34)).alloc (.cells #[.int .i64 0, .int .i64 0, .int .i64 0, .int .i64 0, .int .i64 0] 34)) rp (placesV st.places) := map_of M1.out (hb4.out.block rp (map_lt M1.out))
            obtain ⟨ob, ho, ho2⟩ := run_upd MX2 nm (by rw [look_places, hL.out]; rfl) (insV i) (mty := 51) Tryz.underlying51 Tryz.underlying9
            rw [hsn] at ho
            have u1 := ho ((w2.alloc (.cells #[.int .i64 i.op, .int .i64 i.kd, .int .i64 i.ar, .int .i64 i.pl, .int .i64 i.n] 34)).alloc (.cells #[.int .i64 0, .int .i64 0, .int .i64 0, .int .i64 0, .int .i64 0] 34)).drew rfl
            have u2 := ho ((w2.alloc (.cells #[.int .i64 i.op, .int .i64 i.kd, .int .i64 i.ar, .int .i64 i.pl, .int .i64 i.n] 34)).alloc (.cells #[.int .i64 0, .int .i64 0, .int .i64 0, .int .i64 0, .int .i64 0] 34)).drew.drew rfl
            unfold insV at u1 u2
            replace ho2 := Lib.hid ho2
            have hbx := Lib.hid (((slot5 w2 i 34).next ((Below.refl (w2.alloc (.cells #[.int .i64 i.op, .int .i64 i.kd, .int .i64 i.ar, .int .i64 i.pl, .int .i64 i.n] 34)).heap.size (w2.alloc (.cells #[.int .i64 i.op, .int .i64 i.kd, .int .i64 i.ar, .int .i64 i.pl, .int .i64 i.n] 34))).alloc (Nat.le_refl _) (.cells #[.int .i64 0, .int .i64 0, .int .i64 0, .int .i64 0, .int .i64 0] 34))).1)
            obtain ⟨b0, b1, b2, b3, b4⟩ := hbx.out
            have hrp := Lib.hid (map_lt MX2)
            clear MX MX2 ho d2 d3 hb2
            go_wp2_with fail
            go_region
            all_goals
              go_wp2_with fail
              go_region
              all_goals
                go_wp2
                go_ret
                obtain ⟨hne, hp, h1, h2, h3, h4⟩ := HH.out
                have hbX : Below w.heap.size w ((w2.alloc (.cells #[.int .i64 i.op, .int .i64 i.kd, .int .i64 i.ar, .int .i64 i.pl, .int .i64 i.n] 34)).alloc (.cells #[.int .i64 0, .int .i64 0, .int .i64 0, .int .i64 0, .int .i64 0] 34)).drew := hb4.out.drew
                refine Done.from hbX (Done.map (w := ((w2.alloc (.cells #[.int .i64 i.op, .int .i64 i.kd, .int .i64 i.ar, .int .i64 i.pl, .int .i64 i.n] 34)).alloc (.cells #[.int .i64 0, .int .i64 0, .int .i64 0, .int .i64 0, .int .i64 0] 34)).drew) (x := rawOf st) (x' := rawOf ⟨st.code, st.places ++ [(nm, i)], st.labels⟩) (o := ob) ⟨hne, (hbX.block p (Array.getElem?_eq_some_iff.1 hp).1).trans hp, map_of h1 (hbX.block rp (map_lt h1)), map_of h2 (hbX.block rl (map_lt h2)), own_of h3 (fun k hk => hbX.block k (own_lt h3 k hk).1), own_of h4 (fun k hk => hbX.block k (own_lt h4 k hk).1)⟩ (.inl rfl) rfl rfl ?_ (map_of (map_of h2 (hbX.block rl (map_lt h2))) (putM_other (w := ((w2.alloc (.cells #[.int .i64 i.op, .int .i64 i.kd, .int .i64 i.ar, .int .i64 i.pl, .int .i64 i.n] 34)).alloc (.cells #[.int .i64 0, .int .i64 0, .int .i64 0, .int .i64 0, .int .i64 0] 34)).drew.drew) hne.symm)))
                have := ho2.out _ (putM_at (w := ((w2.alloc (.cells #[.int .i64 i.op, .int .i64 i.kd, .int .i64 i.ar, .int .i64 i.pl, .int .i64 i.n] 34)).alloc (.cells #[.int .i64 0, .int .i64 0, .int .i64 0, .int .i64 0, .int .i64 0] 34)).drew.drew) (o := ob) hrp.out)
                unfold placesV at this
                show MapAt _ rp (placesV (st.places ++ [(nm, i)]))
                unfold placesV
                rw [List.map_append]
                exact this
      · have q2 := s_not ht
        have hd : declE st [a, nm, t, pl] = 4 := by unfold declE; dsimp only; rw [hnm, if_neg (fun h => ht h.2)]
        have hs : declS st [a, nm, t, pl] = st := by unfold declS; dsimp only; rw [hd, if_neg (by decide)]
        rw [hd, hs]
        have k2 := Lib.hid e2
        clear e2 hd hs hnm hw h hE l1 l3 hn ht
        generalize S nm = sn at *
        generalize S t = sm at *
        go_enter Tryz.func46, Tryz.ntmps46
        go_wp2_with fail
        refine (HN.out _).mono ?_
        rintro e w1 ⟨rfl, hb1⟩
        have d2 := kept_cell hb1 k2.out
        replace hb1 := Lib.hid hb1
        go_wp2
        go_ret
        exact Done.same hX.out hb1.out
  · have hd : declE st ws = 4 ∧ declS st ws = st := by
      match ws, hn with
      | [], _ => exact ⟨rfl, rfl⟩
      | [_], _ => exact ⟨rfl, rfl⟩
      | [_, _], _ => exact ⟨rfl, rfl⟩
      | [_, _, _], _ => exact ⟨rfl, rfl⟩
      | [_, _, _, _], h => exact absurd rfl h
      | _ :: _ :: _ :: _ :: _ :: _, _ => exact ⟨rfl, rfl⟩
    rw [hd.1, hd.2]
    have hX := Lib.hid h
    have h4 : ¬ ((ws.length : Int) = 4) := by omega
    generalize ws.length = n at *
    clear hd hn hw hE h
    go_enter Tryz.func46, Tryz.ntmps46
    go_wp2
    go_ret
    exact Done.same hX.out (Below.refl _ _)

end Go.Proofs.YtpnjhodpbjhmcaaGreatDoor.Il

namespace Go.Proofs.YtpnjhodpbjhmcaaGreatDoor.Il
open Go.RowKit
open Go.Proofs.YtpnjhodpbjhmcaaGreatDoor.Ic

/-! ### The object's parts -/
def PartsAt (w : World) (p rp rl : Nat) (cv lv : Value) (x : Raw) : Prop := rp ≠ rl ∧
  w.heap[p]? = some (.cells #[.map (some rp), .map (some rl), cv, lv] 55 (0, 0)) ∧ MapAt w rp (placesV x.places) ∧ MapAt w rl (labelsV x.labels) ∧
  w.ownsRow 0 34 5 cv x.code.length (flat5 x.code) ∧ w.ownsRow 0 84 3 lv x.leaps.length (flat3 x.leaps)
def msOf (p rp rl : Nat) (cv lv : Value) : List Nat := p :: rp :: rl :: (own cv ++ own lv)
theorem PartsAt.raw {w : World} {p rp rl : Nat} {cv lv : Value} {x : Raw} (h : PartsAt w p rp rl cv lv x) : RawAt w p (msOf p rp rl cv lv) x := ⟨rp, rl, cv, lv, rfl, h⟩
theorem PartsAt.below {w w' : World} {p rp rl : Nat} {cv lv : Value} {x : Raw} (h : PartsAt w p rp rl cv lv x) (hb : Below w.heap.size w w') : PartsAt w' p rp rl cv lv x := by
  obtain ⟨hne, hp, h1, h2, h3, h4⟩ := h
  exact ⟨hne, (hb.block p (Array.getElem?_eq_some_iff.1 hp).1).trans hp, map_of h1 (hb.block rp (map_lt h1)), map_of h2 (hb.block rl (map_lt h2)), own_of h3 (fun k hk => hb.block k (own_lt h3 k hk).1), own_of h4 (fun k hk => hb.block k (own_lt h4 k hk).1)⟩
theorem own_some {v : Value} {g : Nat} : v.ownBlock = some g ↔ g ∈ own v := by
  unfold own
  cases v.ownBlock <;> simp [eq_comm]
theorem set_row {w : World} {p k : Nat} {cur : Array Value} {t : TypeId} {v : Value} (h : w.heap[p]? = some (.cells cur t (0, 0))) : (w.setCell ⟨p, k, none⟩ v).heap[p]? = some (.cells (cur.setIfInBounds k v) t (0, 0)) := by
  simp only [World.setCell]
  rw [Array.getElem?_modify, if_pos rfl, h]
  rfl

/-- A row of the object has grown by one. -/
theorem PartsAt.leap {w X w1 : World} {p rp rl g cap : Nat} {cv lv : Value} {x : Raw} {q : Nat × Nat × Bs} (h : PartsAt w p rp rl cv lv x) (hX : Below w.heap.size w X)
    (hown : w1.ownsRow 0 84 3 (.slice (some ⟨g, 0, none⟩) (x.leaps.length + 1) cap) (x.leaps.length + 1) (flat3 x.leaps ++ cells3 q)) (hgr : X.grownBy w1 lv.ownBlock) (hat : lv.ownBlock = some g ∨ g = X.heap.size) :
    PartsAt (w1.setCell ⟨p, 3, none⟩ (.slice (some ⟨g, 0, none⟩) (x.leaps.length + 1) cap)) p rp rl cv (.slice (some ⟨g, 0, none⟩) (x.leaps.length + 1) cap) ⟨x.places, x.labels, x.code, x.leaps ++ [q]⟩ ∧
    OnlyL (msOf p rp rl cv lv) w (w1.setCell ⟨p, 3, none⟩ (.slice (some ⟨g, 0, none⟩) (x.leaps.length + 1) cap)) ∧
    (∀ j ∈ msOf p rp rl cv (.slice (some ⟨g, 0, none⟩) (x.leaps.length + 1) cap), j ∈ msOf p rp rl cv lv ∨ w.heap.size ≤ j) := by
  obtain ⟨hne, hp, h1, h2, h3, h4⟩ := h
  have hs := hX.size
  have hpl : p < w.heap.size := (Array.getElem?_eq_some_iff.1 hp).1
  have hk : ∀ k ob, w.heap[k]? = some ob → (∀ cur, ob ≠ Obj.cells cur 84 (0, 0)) → w1.heap[k]? = w.heap[k]? := fun k ob hko hno => by
    have hkl : k < w.heap.size := (Array.getElem?_eq_some_iff.1 hko).1
    rw [hgr.block k (by omega) (fun e => by
      obtain ⟨cur, hc⟩ := (own_lt h4 k (own_some.1 e.symm)).2
      rw [hko] at hc
      exact hno cur (Option.some.inj hc)), hX.block k hkl]
  have hp1 := (hk p _ hp (fun cur e => by simp at e)).trans hp
  have hgp : g ≠ p := by
    intro e
    subst e
    rcases hat with h | h
    · obtain ⟨cur, hc⟩ := (own_lt h4 g (own_some.1 h)).2
      rw [hp] at hc
      simp at hc
    · omega
  have hkeep : ∀ k ob, w.heap[k]? = some ob → (∀ cur, ob ≠ Obj.cells cur 84 (0, 0)) → k ≠ p → (w1.setCell ⟨p, 3, none⟩ (.slice (some ⟨g, 0, none⟩) (x.leaps.length + 1) cap)).heap[k]? = w.heap[k]? := fun k ob hko hno hkp => (set_other hkp).trans (hk k ob hko hno)
  obtain ⟨es1, ck1, hm1, -⟩ := id h1
  obtain ⟨es2, ck2, hm2, -⟩ := id h2
  refine ⟨⟨hne, ?_, map_of h1 (hkeep rp _ hm1 (fun cur e => by cases e) (fun e => by rw [e, hp] at hm1; cases hm1)), map_of h2 (hkeep rl _ hm2 (fun cur e => by cases e) (fun e => by rw [e, hp] at hm2; cases hm2)), own_of h3 (fun k hkm => ?_), ?_⟩, ⟨?_, ?_, ?_, ?_, ?_⟩, ?_⟩
  · rw [set_row hp1]; rfl
  · obtain ⟨cur, hc⟩ := (own_lt h3 k hkm).2
    exact hkeep k _ hc (fun cur' e => by simp at e) (fun e => by rw [e, hp] at hc; simp at hc)
  · have : (w1.setCell ⟨p, 3, none⟩ (.slice (some ⟨g, 0, none⟩) (x.leaps.length + 1) cap)).ownsRow 0 84 3 (.slice (some ⟨g, 0, none⟩) (x.leaps.length + 1) cap) (x.leaps.length + 1) (flat3 x.leaps ++ cells3 q) :=
      own_of hown fun k hkm => set_other (by simp [own, Value.ownBlock] at hkm; omega)
    have e : flat3 (x.leaps ++ [q]) = flat3 x.leaps ++ cells3 q := by unfold flat3; simp
    show World.ownsRow _ 0 _ 3 _ (x.leaps ++ [q]).length (flat3 (x.leaps ++ [q]))
    rw [e, List.length_append]
    exact this
  · exact hgr.os.trans hX.os
  · exact hgr.tape.trans hX.tape
  · exact hgr.output.trans hX.output
  · have := hgr.size
    simp [World.setCell]
    omega
  · intro k hkl hkm
    simp only [msOf, List.mem_cons, List.mem_append, not_or] at hkm
    rw [set_other hkm.1, hgr.block k (by omega) (fun e => hkm.2.2.2.2 (own_some.1 e.symm)), hX.block k hkl]
  · intro j hj
    simp only [msOf, List.mem_cons, List.mem_append] at hj ⊢
    rcases hj with h | h | h | h | h
    · exact .inl (.inl h)
    · exact .inl (.inr (.inl h))
    · exact .inl (.inr (.inr (.inl h)))
    · exact .inl (.inr (.inr (.inr (.inl h))))
    · simp [own, Value.ownBlock] at h
      subst h
      rcases hat with h | h
      · exact .inl (.inr (.inr (.inr (.inr (own_some.1 h)))))
      · right; omega
theorem PartsAt.more {w X w1 : World} {p rp rl g cap : Nat} {cv lv : Value} {x : Raw} {i : In} (h : PartsAt w p rp rl cv lv x) (hX : Below w.heap.size w X)
    (hown : w1.ownsRow 0 34 5 (.slice (some ⟨g, 0, none⟩) (x.code.length + 1) cap) (x.code.length + 1) (flat5 x.code ++ cells5 i)) (hgr : X.grownBy w1 cv.ownBlock) (hat : cv.ownBlock = some g ∨ g = X.heap.size) :
    PartsAt (w1.setCell ⟨p, 2, none⟩ (.slice (some ⟨g, 0, none⟩) (x.code.length + 1) cap)) p rp rl (.slice (some ⟨g, 0, none⟩) (x.code.length + 1) cap) lv ⟨x.places, x.labels, x.code ++ [i], x.leaps⟩ ∧
    OnlyL (msOf p rp rl cv lv) w (w1.setCell ⟨p, 2, none⟩ (.slice (some ⟨g, 0, none⟩) (x.code.length + 1) cap)) ∧
    (∀ j ∈ msOf p rp rl (.slice (some ⟨g, 0, none⟩) (x.code.length + 1) cap) lv, j ∈ msOf p rp rl cv lv ∨ w.heap.size ≤ j) := by
  obtain ⟨hne, hp, h1, h2, h3, h4⟩ := h
  have hs := hX.size
  have hpl : p < w.heap.size := (Array.getElem?_eq_some_iff.1 hp).1
  have hk : ∀ k ob, w.heap[k]? = some ob → (∀ cur, ob ≠ Obj.cells cur 34 (0, 0)) → w1.heap[k]? = w.heap[k]? := fun k ob hko hno => by
    have hkl : k < w.heap.size := (Array.getElem?_eq_some_iff.1 hko).1
    rw [hgr.block k (by omega) (fun e => by
      obtain ⟨cur, hc⟩ := (own_lt h3 k (own_some.1 e.symm)).2
      rw [hko] at hc
      exact hno cur (Option.some.inj hc)), hX.block k hkl]
  have hp1 := (hk p _ hp (fun cur e => by simp at e)).trans hp
  have hgp : g ≠ p := by
    intro e
    subst e
    rcases hat with h | h
    · obtain ⟨cur, hc⟩ := (own_lt h3 g (own_some.1 h)).2
      rw [hp] at hc
      simp at hc
    · omega
  have hkeep : ∀ k ob, w.heap[k]? = some ob → (∀ cur, ob ≠ Obj.cells cur 34 (0, 0)) → k ≠ p → (w1.setCell ⟨p, 2, none⟩ (.slice (some ⟨g, 0, none⟩) (x.code.length + 1) cap)).heap[k]? = w.heap[k]? := fun k ob hko hno hkp => (set_other hkp).trans (hk k ob hko hno)
  obtain ⟨es1, ck1, hm1, -⟩ := id h1
  obtain ⟨es2, ck2, hm2, -⟩ := id h2
  refine ⟨⟨hne, ?_, map_of h1 (hkeep rp _ hm1 (fun cur e => by cases e) (fun e => by rw [e, hp] at hm1; cases hm1)), map_of h2 (hkeep rl _ hm2 (fun cur e => by cases e) (fun e => by rw [e, hp] at hm2; cases hm2)), ?_, own_of h4 (fun k hkm => ?_)⟩, ⟨?_, ?_, ?_, ?_, ?_⟩, ?_⟩
  · rw [set_row hp1]; rfl
  · have : (w1.setCell ⟨p, 2, none⟩ (.slice (some ⟨g, 0, none⟩) (x.code.length + 1) cap)).ownsRow 0 34 5 (.slice (some ⟨g, 0, none⟩) (x.code.length + 1) cap) (x.code.length + 1) (flat5 x.code ++ cells5 i) :=
      own_of hown fun k hkm => set_other (by simp [own, Value.ownBlock] at hkm; omega)
    have e : flat5 (x.code ++ [i]) = flat5 x.code ++ cells5 i := by unfold flat5; simp
    show World.ownsRow _ 0 _ 5 _ (x.code ++ [i]).length (flat5 (x.code ++ [i]))
    rw [e, List.length_append]
    exact this
  · obtain ⟨cur, hc⟩ := (own_lt h4 k hkm).2
    exact hkeep k _ hc (fun cur' e => by simp at e) (fun e => by rw [e, hp] at hc; simp at hc)
  · exact hgr.os.trans hX.os
  · exact hgr.tape.trans hX.tape
  · exact hgr.output.trans hX.output
  · have := hgr.size
    simp [World.setCell]
    omega
  · intro k hkl hkm
    simp only [msOf, List.mem_cons, List.mem_append, not_or] at hkm
    rw [set_other hkm.1, hgr.block k (by omega) (fun e => hkm.2.2.2.1 (own_some.1 e.symm)), hX.block k hkl]
  · intro j hj
    simp only [msOf, List.mem_cons, List.mem_append] at hj ⊢
    rcases hj with h | h | h | h | h
    · exact .inl (.inl h)
    · exact .inl (.inr (.inl h))
    · exact .inl (.inr (.inr (.inl h)))
    · simp [own, Value.ownBlock] at h
      subst h
      rcases hat with h | h
      · exact .inl (.inr (.inr (.inr (.inl (own_some.1 h)))))
      · right; omega
    · exact .inl (.inr (.inr (.inr (.inr h))))

/-! ### The numbers that are read -/
def Room200 (st : Asm) : Prop := st.code.length ≤ 200 ∧ ∀ q ∈ st.places, q.2.n = 0
theorem look_mem {β : Type} {l : List (Bs × β)} {k : Bs} {v : β} (h : look l k = some v) : ∃ q ∈ l, q.2 = v := by
  unfold look at h
  cases hf : l.find? fun p => decide (p.1 = k) with
  | none => rw [hf] at h; cases h
  | some q =>
    rw [hf] at h
    exact ⟨q, List.mem_of_find?_eq_some hf, by simpa using h⟩
theorem i64_0 : I64 0 := by constructor <;> decide
theorem num_bd {m : Nat} {s : Bs} {n : Nat} (h : numB m s = some n) (hm : m ≤ 10) : (n : Int) < 10000000000 := by
  unfold numB at h
  split at h
  · next hc =>
    cases h
    have h1 := val_lt s hc.2.2
    have h2 : (10 : Nat) ^ s.length ≤ 10 ^ 10 := Nat.pow_le_pow_right (by decide) (by omega)
    have h3 : (10 : Nat) ^ 10 = 10000000000 := by decide
    omega
  · cases h
theorem lit_n {s : Bs} {i : In} (h : litB s = some i) : I64 i.n := by
  rw [lit_cut] at h
  cases hn : signB (Lib.cut s [35]).2.1 with
  | none => rw [hn] at h; cases h
  | some n =>
    rw [hn] at h
    by_cases hk : kindOf (Lib.cut s [35]).1 = 0
    · simp [hk] at h
    · simp [hk] at h
      subst h
      rw [sign_pre] at hn
      cases hm : numB 10 (cutPre (Lib.cut s [35]).2.1 45).1 with
      | none => rw [hm] at hn; cases hn
      | some u =>
        have hb := lit_bd hm
        rw [hm] at hn
        simp at hn
        dsimp only
        unfold I64
        split at hn <;> omega
theorem read_n (st : Asm) (hf : Room200 st) (ws : List Bs) : I64 (readI st.places ws).1.n := by
  match ws with
  | [] => exact i64_0
  | [a] =>
    show I64 (aloneI a).n
    unfold aloneI
    repeat' split
    all_goals exact i64_0
  | a :: b :: c :: r => exact i64_0
  | [a, s] =>
    show I64 (asksI st.places (opOf a : Nat) s).1.n
    unfold asksI
    split
    · show I64 (operI st.places s).1.n
      unfold operI
      split
      · cases hl : look st.places s with
        | none => exact i64_0
        | some i =>
          obtain ⟨q, hq, e⟩ := look_mem hl
          show I64 i.n
          rw [← e, hf.2 q hq]
          exact i64_0
      · cases hp : placeC s with
        | some i =>
          show I64 i.n
          unfold placeC at hp
          cases hp2 : placeB s with
          | none => rw [hp2] at hp; cases hp
          | some j =>
            rw [hp2] at hp
            have hj := place_op hp2
            have : j = i := by
              have h : (if thereB j.pl j.kd = true then some j else none) = some i := hp
              split at h
              · exact Option.some.inj h
              · cases h
            rw [← this, hj.2.1]
            exact i64_0
        | none =>
          cases hl : litB s with
          | some i => exact lit_n hl
          | none => exact i64_0
    split
    · split <;> exact i64_0
    split
    · exact i64_0
    split
    · cases hc : cntB s with
      | none => exact i64_0
      | some x =>
        show I64 (x.2 : Int)
        rw [cnt_cut] at hc
        cases hq : spotB (Lib.cut s [44]).1 with
        | none => rw [hq] at hc; cases hc
        | some q =>
          cases hn : numB 4 (Lib.cut s [44]).2.1 with
          | none => rw [hq, hn] at hc; cases hc
          | some n =>
            rw [hq, hn] at hc
            cases hc
            have := num_bd hn (by decide)
            unfold I64
            dsimp only
            omega
    split
    · split <;> exact i64_0
    · exact i64_0

end Go.Proofs.YtpnjhodpbjhmcaaGreatDoor.Il

namespace Go.Proofs.YtpnjhodpbjhmcaaGreatDoor.Il
open Go.RowKit
open Go.Proofs.YtpnjhodpbjhmcaaGreatDoor.Ic

theorem infoIn : (Tryz.prog.info? 34).map (fun i => (i.zero, i.size, i.bytes)) = some (some (.agg #[.int .i64 0, .int .i64 0, .int .i64 0, .int .i64 0, .int .i64 0]), 5, 40) := by kernel_rfl
theorem infoLeap : (Tryz.prog.info? 84).map (fun i => (i.zero, i.size, i.bytes)) = some (some (.agg #[.int .i64 0, .int .i64 0, .string ⟨#[]⟩]), 3, 32) := by kernel_rfl
theorem grow_cell {w X w1 : World} {p rp rl : Nat} {cv lv : Value} {x : Raw} (h : PartsAt w p rp rl cv lv x) (hX : Below w.heap.size w X) {row : Option Nat} (hrow : row = cv.ownBlock ∨ row = lv.ownBlock) (hgr : X.grownBy w1 row) :
    w1.cell? ⟨p, 2, none⟩ = some cv ∧ w1.cell? ⟨p, 3, none⟩ = some lv ∧ ∀ k, w1.frozen? ⟨p, k, none⟩ = false := by
  obtain ⟨-, hp, -, -, h3, h4⟩ := h
  have hpl : p < w.heap.size := (Array.getElem?_eq_some_iff.1 hp).1
  have hs := hX.size
  have hp1 : w1.heap[p]? = w.heap[p]? := by
    rw [hgr.block p (by omega) (fun e => by
      rcases hrow with hr | hr
      · obtain ⟨cur, hc⟩ := (own_lt h3 p (own_some.1 (by rw [← hr, ← e]))).2
        rw [hp] at hc
        simp at hc
      · obtain ⟨cur, hc⟩ := (own_lt h4 p (own_some.1 (by rw [← hr, ← e]))).2
        rw [hp] at hc
        simp at hc), hX.block p hpl]
  have := RawAt.cells (hp1.trans hp)
  exact ⟨this.2.2.1, this.2.2.2.1, this.2.2.2.2⟩
theorem raw_add (st : Asm) (i : In) (lab : Bs) (ln : Nat) : rawOf ⟨st.code ++ [(i, lab, ln)], st.places, st.labels⟩ = ⟨(rawOf st).places, (rawOf st).labels, (rawOf st).code ++ [i], (rawOf st).leaps ++ (if lab = [] then [] else [(st.code.length, ln, lab)])⟩ := by
  unfold rawOf
  rw [leaps_app, List.map_append, Nat.zero_add]
  simp [leapsOf]
theorem leaps_le : ∀ (l : List (In × Bs × Nat)) (k : Nat), (leapsOf k l).length ≤ l.length
  | [], _ => Nat.le_refl _
  | q :: r, k => by
    show (_ ++ leapsOf (k + 1) r).length ≤ r.length + 1
    have := leaps_le r (k + 1)
    rw [List.length_append]
    split <;> simp <;> omega
theorem read_jump (places : List (Bs × In)) (ws : List Bs) (h : jumpB (readI places ws).1.op = true) : ∃ a b, ws = [a, b] ∧ nameB b = true := by
  match ws with
  | [] => exact absurd h (show ¬ jumpB (0 : Int) = true by decide)
  | a :: b :: c :: r => exact absurd h (show ¬ jumpB (0 : Int) = true by decide)
  | [a] =>
    exfalso
    replace h : jumpB (aloneI a).op = true := h
    have h4 := form_4.2 h
    revert h4
    unfold aloneI
    split
    · exact (by decide : formI 33 = 4 → False)
    split
    · exact (by decide : formI 32 = 4 → False)
    split
    · next hf => dsimp only; rw [hf]; decide
    · exact (by decide : formI 0 = 4 → False)
  | [a, s] =>
    replace h : jumpB (asksI places (opOf a : Nat) s).1.op = true := h
    refine ⟨a, s, rfl, ?_⟩
    have h4 := form_4.2 h
    clear h
    revert h4
    unfold asksI
    split
    · next hf => intro h4; dsimp only at h4; rw [h4] at hf; rcases hf with hf | hf <;> cases hf
    split
    · next hf =>
      dsimp only
      split
      · next hn => intro _; exact hn
      · intro h4; exact absurd h4 (by decide)
    split
    · next hf => intro h4; dsimp only at h4; rw [h4] at hf; cases hf
    split
    · next hf =>
      intro h4
      have : formI (opOf a : Nat) = 4 := by
        revert h4
        cases cntB s <;> exact id
      rw [this] at hf
      cases hf
    split
    · next hf =>
      intro h4
      have : formI (opOf a : Nat) = 4 := by
        revert h4
        cases spotB s <;> exact id
      rw [this] at hf
      cases hf
    · intro h4; exact absurd h4 (by decide)
theorem laid_ins (w : World) (i : In) : ∀ j u, (cells5 i)[j]? = some u → (w.alloc (.cells #[.int .i64 i.op, .int .i64 i.kd, .int .i64 i.ar, .int .i64 i.pl, .int .i64 i.n] 34)).cell? ((⟨w.heap.size, 0, none⟩ : Addr).add j) = some u := by
  intro j u hu
  have hadd : (⟨w.heap.size, 0, none⟩ : Addr).add j = ⟨w.heap.size, j, none⟩ := by unfold Addr.add; split <;> simp_all
  rw [hadd, cell_of_row _ _ j _ 34 (0, 0) (heap_alloc_new w _)]
  simpa [cells5] using hu
theorem laid_leap (w : World) (q : Nat × Nat × Bs) : ∀ j u, (cells3 q)[j]? = some u → (w.alloc (.cells #[.int .i64 q.1, .int .i64 q.2.1, .string (S q.2.2)] 84)).cell? ((⟨w.heap.size, 0, none⟩ : Addr).add j) = some u := by
  intro j u hu
  have hadd : (⟨w.heap.size, 0, none⟩ : Addr).add j = ⟨w.heap.size, j, none⟩ := by unfold Addr.add; split <;> simp_all
  rw [hadd, cell_of_row _ _ j _ 84 (0, 0) (heap_alloc_new w _)]
  simpa [cells3] using hu
set_option maxRecDepth 100000 in
set_option maxHeartbeats 4000000 in
theorem cAdd (p : Nat) (ms : List Nat) (st : Asm) (g o c ln : Nat) (ws : List Bs) (w : World) (h : RawAt w p ms (rawOf st)) (hf : Room200 st) (hw : RowS w g o ws) (hE : Env w) :
    Calls Tryz.prog 49 #[.pointer (some ⟨p, 0, none⟩), .slice (some ⟨g, o, none⟩) ws.length c, .int .i64 ln] w (Done p ms (.int .i64 (addE st ws : Nat)) (rawOf (addS st ws ln)) w) := by
  obtain ⟨t0, ht0, ht1, ht2, ht3⟩ := info_parts infoIn
  have HI := Lib.hid (⟨ht0, ht1, ht2, ht3⟩ : _ ∧ _ ∧ _ ∧ _)
  obtain ⟨u0, hu0, hu1, hu2, hu3⟩ := info_parts infoLeap
  have HU := Lib.hid (⟨hu0, hu1, hu2, hu3⟩ : _ ∧ _ ∧ _ ∧ _)
  clear ht0 ht1 ht2 ht3 hu0 hu1 hu2 hu3
  have HR := Lib.hid (fun W (hb : Below w.heap.size w W) hE => cRead p ms (rawOf st) g o c ws W (h.below hb) (hw.kept hb) hE)
  have HG := Lib.hid (fun W => cRight_any (readI st.places ws).1 (read_n st hf ws) W)
  have HF := Lib.hid (fun W => cForm_any (readI st.places ws).1.op W)
  have hrr := read_reads st.places ws
  have hX := Lib.hid h
  have hE0 := Lib.hid hE
  have hpl : (rawOf st).places = st.places := rfl
  rw [hpl] at HR
  unfold addS addE
  by_cases h5 : (readI st.places ws).2 ≠ 0
  · have e5 : (readI st.places ws).2 = 5 := by
      rcases hrr with h | h | h
      · exact h.1
      · exact absurd h.1 h5
      · exact absurd h.1 h5
    rw [if_pos h5, if_neg (by decide)]
    clear HG HF hrr hw h hE hf
    generalize readI st.places ws = r at *
    obtain ⟨⟨i0, i1, i2, i3, i4⟩, r2⟩ := r
    dsimp only at e5
    subst e5
    unfold insV at HR
    dsimp only at HR
    go_enter Tryz.func49, Tryz.ntmps49
    go_wp2_with fail
    refine (HR.out _ (Below.refl _ _) hE0.out).mono ?_
    rintro e w1 ⟨rfl, hb1⟩
    replace hb1 := Lib.hid hb1
    go_wp2
    go_ret
    exact Done.same hX.out (hb1.out.alloc hb1.out.size _)
  · have e0 : (readI st.places ws).2 = 0 := by simpa using h5
    rw [if_neg h5]
    clear hrr h5
    have HP0 := h
    obtain ⟨rp, rl, cv, lv, hms, HP⟩ := h
    replace HP : PartsAt w p rp rl cv lv (rawOf st) := HP
    replace HP := Lib.hid HP
    subst hms
    obtain ⟨A, ca, hcv⟩ := own_form5 HP.out.2.2.2.2.1
    obtain ⟨B, cb, hlv⟩ := own_form5 HP.out.2.2.2.2.2
    have hlen : (rawOf st).code.length = st.code.length := by simp [rawOf]
    subst hcv hlv
    cases hr : rightI (readI st.places ws).1 with
    | false =>
      rw [hr] at HG
      rw [if_pos rfl, if_neg (by decide)]
      clear HF hr hf hw hE
      generalize readI st.places ws = r at *
      obtain ⟨⟨i0, i1, i2, i3, i4⟩, r2⟩ := r
      dsimp only at e0
      subst e0
      unfold insV at HR HG
      dsimp only at HR HG
      go_enter Tryz.func49, Tryz.ntmps49
      go_wp2_with fail
      refine (HR.out _ (Below.refl _ _) hE0.out).mono ?_
      rintro e w1 ⟨rfl, hb1⟩
      have hb2 := Lib.hid (hb1.alloc hb1.size (.cells #[.int .i64 i0, .int .i64 i1, .int .i64 i2, .int .i64 i3, .int .i64 i4] 34))
      have hbx := Lib.hid (slot5 w1 ⟨i0, i1, i2, i3, i4⟩ 34).1
      obtain ⟨b0, b1, b2, b3, b4⟩ := hbx.out
      dsimp only at b0 b1 b2 b3 b4
      clear hb1
      go_wp2_with fail
      refine (HG.out _).mono ?_
      rintro e w3 ⟨rfl, hb3⟩
      have hb4 := Lib.hid (hb2.out.trans (hb3.mono hb2.out.size))
      go_wp2
      go_ret
      exact Done.same HP0 hb4.out
    | true =>
      rw [hr] at HG
      rw [if_neg (by decide)]
      by_cases h200 : 200 ≤ st.code.length
      · rw [if_pos h200, if_neg (by decide)]
        have hl : ((rawOf st).code.length : Int) = 200 := by have := hf.1; rw [hlen]; omega
        clear HF hr hf hw hE h200 hlen
        generalize (rawOf st).code.length = n at *
        generalize readI st.places ws = r at *
        obtain ⟨⟨i0, i1, i2, i3, i4⟩, r2⟩ := r
        dsimp only at e0
        subst e0
        unfold insV at HR HG
        dsimp only at HR HG
        go_enter Tryz.func49, Tryz.ntmps49
        go_wp2_with fail
        refine (HR.out _ (Below.refl _ _) hE0.out).mono ?_
        rintro e w1 ⟨rfl, hb1⟩
        have hb2 := Lib.hid (hb1.alloc hb1.size (.cells #[.int .i64 i0, .int .i64 i1, .int .i64 i2, .int .i64 i3, .int .i64 i4] 34))
        have hbx := Lib.hid (slot5 w1 ⟨i0, i1, i2, i3, i4⟩ 34).1
        obtain ⟨b0, b1, b2, b3, b4⟩ := hbx.out
        dsimp only at b0 b1 b2 b3 b4
        clear hb1
        go_wp2_with fail
        refine (HG.out _).mono ?_
        rintro e w3 ⟨rfl, hb3⟩
        have hb4 := Lib.hid (hb2.out.trans (hb3.mono hb2.out.size))
        have hby := Lib.hid (hbx.out.next hb3)
        clear b0 b1 b2 b3 b4
        obtain ⟨b0, b1, b2, b3, b4⟩ := hby.out
        dsimp only at b0 b1 b2 b3 b4
        have PX := Lib.hid (HP.out.below hb4.out)
        obtain ⟨c0, c1, c2, c3, cf⟩ := RawAt.cells PX.out.2.1
        go_wp2
        go_ret
        exact Done.same HP0 hb4.out
      · rw [if_neg h200, if_pos rfl]
        have hl : ¬ (((rawOf st).code.length : Int) = 200) := by omega
        have hl2 : (rawOf st).code.length < 200 := by omega
        have hlp : (rawOf st).leaps.length ≤ (rawOf st).code.length := by rw [hlen]; exact leaps_le st.code 0
        have hnew := Lib.hid (raw_add st (readI st.places ws).1 (labW (readI st.places ws).1 ws) ln)
        have hjm : Hid (jumpB (readI st.places ws).1.op = true → ∃ a b, ws = [a, b] ∧ nameB b = true) := read_jump st.places ws
        unfold labW at hnew ⊢
        generalize rawOf st = x at *
        rw [← hlen] at hnew
        clear hlen hr h200 HP0 hX hf
        generalize readI st.places ws = r at *
        obtain ⟨⟨i0, i1, i2, i3, i4⟩, r2⟩ := r
        dsimp only at e0
        subst e0
        unfold insV at HR HG
        dsimp only at HR HG HF hnew hjm ⊢
        by_cases hj : jumpB i0 = true
        · obtain ⟨a, b, hws, hnb⟩ := hjm.out hj
          subst hws
          rw [if_pos hj] at hnew ⊢
          have hgd : [a, b].getD 1 [] = b := rfl
          have hbe : b ≠ [] := (name_chars hnb).1
          rw [hgd, if_neg hbe] at hnew
          rw [hgd]
          have hk1 := Lib.hid hw.tail.head.1
          rw [form_4.2 hj] at HF
          simp only [List.length_cons, List.length_nil, Nat.zero_add, Nat.reduceAdd] at HR ⊢
          clear hj hjm hw hnb hbe hgd
          go_enter Tryz.func49, Tryz.ntmps49
          go_wp2_with fail
          refine (HR.out _ (Below.refl _ _) hE0.out).mono ?_
          rintro e w1 ⟨rfl, hb1⟩
          have hs1 := Lib.hid hb1.size
          have hb2 := Lib.hid (hb1.alloc hb1.size (.cells #[.int .i64 i0, .int .i64 i1, .int .i64 i2, .int .i64 i3, .int .i64 i4] 34))
          have hbx := Lib.hid (slot5 w1 ⟨i0, i1, i2, i3, i4⟩ 34).1
          obtain ⟨b0, b1, b2, b3, b4⟩ := hbx.out
          dsimp only at b0 b1 b2 b3 b4
          clear hb1
          go_wp2_with fail
          refine (HG.out _).mono ?_
          rintro e w3 ⟨rfl, hb3⟩
          have hb4 := Lib.hid (hb2.out.trans (hb3.mono hb2.out.size))
          have hby := Lib.hid (hbx.out.next hb3)
          clear b0 b1 b2 b3 b4
          obtain ⟨b0, b1, b2, b3, b4⟩ := hby.out
          dsimp only at b0 b1 b2 b3 b4
          have PX := Lib.hid (HP.out.below hb4.out)
          obtain ⟨c0, c1, c2, c3, cf⟩ := RawAt.cells PX.out.2.1
          have e1 := kept_cell hb4.out hk1.out
          go_wp2_with fail
          refine (HF.out _).mono ?_
          rintro e w5 ⟨rfl, rfl⟩
          go_wp2_with fail
          have HO9 := Lib.hid (World.ownsRow.alloc PX.out.2.2.2.2.2 (.cells #[.int .i64 (x.code.length : Nat), .int .i64 ln, .string (S b)] 84))
          have hB9 := Lib.hid (((Below.refl w3.heap.size w3).alloc (Nat.le_refl _) (.cells #[.int .i64 (x.code.length : Nat), .int .i64 ln, .string (S b)] 84)).drew)
          have P9 := RawAt.cells (PartsAt.below PX.out ((Below.refl w3.heap.size w3).alloc (Nat.le_refl _) (.cells #[.int .i64 (x.code.length : Nat), .int .i64 ln, .string (S b)] 84))).2.1
          have c29 := P9.2.2.1
          have c39 := P9.2.2.2.1
          have e19 := kept_cell ((Below.refl w3.heap.size w3).alloc (Nat.le_refl _) (.cells #[.int .i64 (x.code.length : Nat), .int .i64 ln, .string (S b)] 84)) e1
          clear P9
          go_region_law ((refine step_append_lies _ (by rfl) (.tmp 35) (.tmp 46) 53 (by rfl) 0 84 u0 (.agg #[.int .i64 0, .int .i64 0, .string ⟨#[]⟩]) 3 32 Tryz.underlying53 HU.out.1 HU.out.2.1 HU.out.2.2.1 HU.out.2.2.2 rfl (by decide) _ x.leaps.length (flat3 x.leaps) (by simp [Act.eval]) HO9.out ⟨w3.heap.size, 0, none⟩ 1 1 (cells3 (x.code.length, ln, b)) (by simp [Act.eval]) rfl (laid_leap w3 (x.code.length, ln, b)) (by intro u hu; simp [cells3] at hu; rcases hu with rfl | rfl | rfl <;> rfl) (by decide) (by unfold maxLen; omega) (by omega) (Nat.zero_le _) _ rfl ?_; intro g1 cp1 W1 hown1 hgr1 hat1 hlt1; have HQ1 := Lib.hid (PartsAt.leap PX.out hB9.out hown1 hgr1 hat1); have q3 := (grow_cell PX.out hB9.out (.inr rfl) hgr1).2.1; have qf3 := (grow_cell PX.out hB9.out (.inr rfl) hgr1).2.2))
          all_goals
            clear hown1 hgr1 hat1 hlt1 q3 qf3 c29 c39 e19 e1 b0 b1 b2 b3 b4 c0 c1 c2 c3 cf HO9
            generalize W1.setCell ⟨p, 3, none⟩ (.slice (some ⟨g1, 0, none⟩) (x.leaps.length + 1) cp1) = Y at *
            have PY := Lib.hid HQ1.out.1
            have hnm : w1.heap.size ∉ msOf p rp rl (.slice A x.code.length ca) (.slice B x.leaps.length cb) := fun hm => by
              have := (HP.out.raw).lt _ hm
              have := hs1.out
              omega
            obtain ⟨b0, b1, b2, b3, b4⟩ : At5 Y w1.heap.size ⟨i0, i1, i2, i3, i4⟩ := by
              obtain ⟨h0, h1, h2, h3, h4⟩ := hby.out
              exact ⟨HQ1.out.2.1.cell hnm h0, HQ1.out.2.1.cell hnm h1, HQ1.out.2.1.cell hnm h2, HQ1.out.2.1.cell hnm h3, HQ1.out.2.1.cell hnm h4⟩
            dsimp only at b0 b1 b2 b3 b4
            obtain ⟨c0, c1, c2, c3, cf⟩ := RawAt.cells PY.out.2.1
            clear hnm
            go_wp2_with fail
            have HO := Lib.hid (World.ownsRow.alloc PY.out.2.2.2.2.1 (.cells #[.int .i64 i0, .int .i64 i1, .int .i64 i2, .int .i64 i3, .int .i64 i4] 34))
            have c2k := (RawAt.cells (PartsAt.below PY.out ((Below.refl Y.heap.size Y).alloc (Nat.le_refl _) (.cells #[.int .i64 i0, .int .i64 i1, .int .i64 i2, .int .i64 i3, .int .i64 i4] 34))).2.1).2.2.1
            have hBX := Lib.hid (((Below.refl Y.heap.size Y).alloc (Nat.le_refl _) (.cells #[.int .i64 i0, .int .i64 i1, .int .i64 i2, .int .i64 i3, .int .i64 i4] 34)).drew)
            go_region_law ((refine step_append_lies _ (by rfl) (.tmp 54) (.tmp 56) 22 (by rfl) 0 34 t0 (.agg #[.int .i64 0, .int .i64 0, .int .i64 0, .int .i64 0, .int .i64 0]) 5 40 Tryz.underlying22 HI.out.1 HI.out.2.1 HI.out.2.2.1 HI.out.2.2.2 rfl (by decide) _ x.code.length (flat5 x.code) (by simp [Act.eval]) HO.out ⟨Y.heap.size, 0, none⟩ 1 1 (cells5 ⟨i0, i1, i2, i3, i4⟩) (by simp [Act.eval]) rfl (laid_ins Y ⟨i0, i1, i2, i3, i4⟩) (by intro u hu; simp [cells5] at hu; rcases hu with rfl | rfl | rfl | rfl | rfl <;> rfl) (by decide) (by unfold maxLen; omega) (by omega) (Nat.zero_le _) _ rfl ?_; intro g2 cp2 W2 hown2 hgr2 hat2 hlt2; have HQ2 := Lib.hid (PartsAt.more PY.out hBX.out hown2 hgr2 hat2); have q2 := (grow_cell PY.out hBX.out (.inl rfl) hgr2).1; have qf2 := (grow_cell PY.out hBX.out (.inl rfl) hgr2).2.2))
            all_goals
              go_wp2
              go_ret
              rw [hnew.out]
              exact ⟨rfl, _, HQ2.out.1.raw, ((OnlyL.of_below hb4.out).trans HQ1.out.2.1 (fun j hj => .inl hj)).trans HQ2.out.2.1 (fun j hj => (HQ1.out.2.2 j hj).imp id fun h => Nat.le_trans hb4.out.size h), fun j hj => (HQ2.out.2.2 j hj).elim (fun h => (HQ1.out.2.2 j h).imp id fun h => Nat.le_trans hb4.out.size h) (fun h => .inr (Nat.le_trans hb4.out.size (Nat.le_trans HQ1.out.2.1.size h)))⟩
        · have hz : (formI i0 == 4) = false := by
            rw [beq_eq_false_iff_ne]
            exact fun e => hj (form_4.1 e)
          rw [if_neg hj] at hnew ⊢
          rw [if_pos rfl, List.append_nil] at hnew
          generalize formI i0 = z at *
          clear hj hjm hw HU
          go_enter Tryz.func49, Tryz.ntmps49
          go_wp2_with fail
          refine (HR.out _ (Below.refl _ _) hE0.out).mono ?_
          rintro e w1 ⟨rfl, hb1⟩
          have hb2 := Lib.hid (hb1.alloc hb1.size (.cells #[.int .i64 i0, .int .i64 i1, .int .i64 i2, .int .i64 i3, .int .i64 i4] 34))
          have hbx := Lib.hid (slot5 w1 ⟨i0, i1, i2, i3, i4⟩ 34).1
          obtain ⟨b0, b1, b2, b3, b4⟩ := hbx.out
          dsimp only at b0 b1 b2 b3 b4
          clear hb1
          go_wp2_with fail
          refine (HG.out _).mono ?_
          rintro e w3 ⟨rfl, hb3⟩
          have hb4 := Lib.hid (hb2.out.trans (hb3.mono hb2.out.size))
          have hby := Lib.hid (hbx.out.next hb3)
          clear b0 b1 b2 b3 b4
          obtain ⟨b0, b1, b2, b3, b4⟩ := hby.out
          dsimp only at b0 b1 b2 b3 b4
          have PX := Lib.hid (HP.out.below hb4.out)
          obtain ⟨c0, c1, c2, c3, cf⟩ := RawAt.cells PX.out.2.1
          go_wp2_with fail
          refine (HF.out _).mono ?_
          rintro e w5 ⟨rfl, rfl⟩
          go_wp2_with fail
          have HO := Lib.hid (World.ownsRow.alloc PX.out.2.2.2.2.1 (.cells #[.int .i64 i0, .int .i64 i1, .int .i64 i2, .int .i64 i3, .int .i64 i4] 34))
          have c2k := (RawAt.cells (PartsAt.below PX.out ((Below.refl w3.heap.size w3).alloc (Nat.le_refl _) (.cells #[.int .i64 i0, .int .i64 i1, .int .i64 i2, .int .i64 i3, .int .i64 i4] 34))).2.1).2.2.1
          have hBX := Lib.hid (((Below.refl w3.heap.size w3).alloc (Nat.le_refl _) (.cells #[.int .i64 i0, .int .i64 i1, .int .i64 i2, .int .i64 i3, .int .i64 i4] 34)).drew)
          go_region_law ((refine step_append_lies _ (by rfl) (.tmp 54) (.tmp 56) 22 (by rfl) 0 34 t0 (.agg #[.int .i64 0, .int .i64 0, .int .i64 0, .int .i64 0, .int .i64 0]) 5 40 Tryz.underlying22 HI.out.1 HI.out.2.1 HI.out.2.2.1 HI.out.2.2.2 rfl (by decide) _ x.code.length (flat5 x.code) (by simp [Act.eval]) HO.out ⟨w3.heap.size, 0, none⟩ 1 1 (cells5 ⟨i0, i1, i2, i3, i4⟩) (by simp [Act.eval]) rfl (laid_ins w3 ⟨i0, i1, i2, i3, i4⟩) (by intro u hu; simp [cells5] at hu; rcases hu with rfl | rfl | rfl | rfl | rfl <;> rfl) (by decide) (by unfold maxLen; omega) (by omega) (Nat.zero_le _) _ rfl ?_; intro g2 cp2 W2 hown2 hgr2 hat2 hlt2; have HQ2 := Lib.hid (PartsAt.more PX.out hBX.out hown2 hgr2 hat2); have q2 := (grow_cell PX.out hBX.out (.inl rfl) hgr2).1; have qf2 := (grow_cell PX.out hBX.out (.inl rfl) hgr2).2.2))
          all_goals
            go_wp2
            go_ret
            rw [hnew.out]
            exact ⟨rfl, _, HQ2.out.1.raw, (OnlyL.of_below hb4.out).trans HQ2.out.2.1 (fun j hj => .inl hj), fun j hj => (HQ2.out.2.2 j hj).imp id fun h => Nat.le_trans hb4.out.size h⟩

end Go.Proofs.YtpnjhodpbjhmcaaGreatDoor.Il
