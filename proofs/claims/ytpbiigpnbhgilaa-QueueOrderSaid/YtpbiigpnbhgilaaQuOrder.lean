/-
  The law QueueOrder, walked: it returns true, where the calls answer as is asked. Conditions: that, and on sizes.
-/
import Derived.Test.YtpbiigpnbhgilaaQuKeep
import Derived.Deep.DeepCutAuto
namespace Go.Proofs.Ytpbiigpnbhgilaa.Qu
open Go.RowKit

theorem OS.fresh {F : Face Int} {N p : Nat} {ms : List Nat} {w0 w : World} {x : Qs Int} (h : Run F N w0 w p ms x) (s t : TypeId) :
    OS F N w0 (((w.alloc (.cells #[.pointer (some ⟨p, 0, none⟩)] s)).alloc (.cells #[.slice none 0 0, .slice none 0 0] t)).alloc (.cells #[.slice none 0 0, .slice none 0 0] t)) p ms x w.heap.size (w.heap.size + 1) [w.heap.size + 1] (fun _ => []) (w.heap.size + 1 + 1) [w.heap.size + 1 + 1] (fun _ => []) := by
  have s1 : (w.alloc (.cells #[.pointer (some ⟨p, 0, none⟩)] s)).heap.size = w.heap.size + 1 := by simp
  have s2 : ((w.alloc (.cells #[.pointer (some ⟨p, 0, none⟩)] s)).alloc (.cells #[.slice none 0 0, .slice none 0 0] t)).heap.size = w.heap.size + 1 + 1 := by simp
  have b1 := alloc_below w (.cells #[.pointer (some ⟨p, 0, none⟩)] s)
  have b2 := alloc_below (w.alloc (.cells #[.pointer (some ⟨p, 0, none⟩)] s)) (.cells #[.slice none 0 0, .slice none 0 0] t)
  have b3 := alloc_below ((w.alloc (.cells #[.pointer (some ⟨p, 0, none⟩)] s)).alloc (.cells #[.slice none 0 0, .slice none 0 0] t)) (.cells #[.slice none 0 0, .slice none 0 0] t)
  have d1 := DuoAt.fresh (w.alloc (.cells #[.pointer (some ⟨p, 0, none⟩)] s)) t
  have d2 := DuoAt.fresh ((w.alloc (.cells #[.pointer (some ⟨p, 0, none⟩)] s)).alloc (.cells #[.slice none 0 0, .slice none 0 0] t)) t
  rw [s1] at d1
  rw [s2] at d2
  have hs := h.size
  have hlt := F.lt h.at_
  have c8 : (w.alloc (.cells #[.pointer (some ⟨p, 0, none⟩)] s)).cell? ⟨w.heap.size, 0, none⟩ = some (.pointer (some ⟨p, 0, none⟩)) := by rw [cell_of_row _ _ 0 _ s (0, 0) (heap_alloc_new w _)]; rfl
  refine ⟨((h.more b1).more b2).more b3, ?_, d1.below b3, d2, hs, ?_, ?_, ?_, ?_, ?_, ?_, ?_, ?_⟩
  · exact (World.cell?_of_block (a := ⟨w.heap.size, 0, none⟩) ((b3.block w.heap.size (by rw [s2]; omega)).trans (b2.block w.heap.size (by rw [s1]; omega)))).trans c8
  · intro k hk; simp at hk; omega
  · intro k hk; simp at hk; omega
  · intro k hk hin; have := hlt k hk; simp at hin; omega
  · intro k hk hin; have := hlt k hk; simp at hin; omega
  · intro k hk hin; simp at hk hin; omega
  · exact fun hin => by have := hlt _ hin; omega
  · intro hin; rw [List.mem_singleton] at hin; omega
  · intro hin; rw [List.mem_singleton] at hin; omega

/-- So many wait. -/
def GoodQ (F : Face Int) (N : Nat) (w0 : World) (p q ib : Nat) (is : List Nat) (L : Bool → List Int) (ob n : Nat) (w : World) (k : Nat) : Prop :=
  ∃ ms os x M, OS F N w0 w p ms x q ib is L ob os M ∧ QJ x L M n ∧ x.hi.length + x.lo.length = k
theorem has_least {P : Nat → Prop} (n : Nat) : P n → ∃ k, P k ∧ ∀ j, P j → k ≤ j := by
  induction n using Nat.strongRecOn with
  | ind n ih =>
    intro hn
    by_cases h : ∃ m, m < n ∧ P m
    · obtain ⟨m, hm, hp⟩ := h
      exact ih m hm hp
    · exact ⟨n, hn, fun j hj => Nat.le_of_not_lt (fun hlt => h ⟨j, hlt, hj⟩)⟩
/-- The least number of which something holds. -/
noncomputable def least (P : Nat → Prop) : Nat := Classical.epsilon fun k => P k ∧ ∀ j, P j → k ≤ j
theorem least_spec {P : Nat → Prop} (h : ∃ k, P k) : P (least P) ∧ ∀ j, P j → least P ≤ j := by
  obtain ⟨k, hk⟩ := h
  exact Classical.epsilon_spec (has_least k hk)

set_option maxRecDepth 100000 in
set_option maxHeartbeats 16000000 in
theorem order_walk {F : Face Int} {G : Face ByteArray} (CS : CodeS G) (C : CodeI F) (d : Nat) (cap1 cap2 : Nat) (ao1 ao2 : Option Addr) (xs ts : List Bool) (w : World) (hd : (d : Int) ≤ 255) (hI1 : BLies w w.heap.size ao1 xs) (hl1 : xs.length ≤ maxLen) (hI2 : BLies w w.heap.size ao2 ts) (hl2 : ts.length ≤ maxLen) :
    Calls Try.prog 4 #[.int .u8 d, .slice ao1 xs.length cap1, .slice ao2 ts.length cap2] w (Tells (.bool true) w) := by
  have CC := Lib.hid C
  have CA := Lib.hid CS
  have HI1 := Lib.hid hI1
  have HI2 := Lib.hid hI2
  unfold maxLen at hl1 hl2
  have hmf : ∀ (fn : Fn) (first cap : Array Value) (w : World), (Instr.makeFunc fn first cap).run Try.prog w = .ok (.func fn first cap) w := fun _ _ _ _ => rfl
  clear hI1 hI2 C CS
  by_cases hgd : xs.length ≤ 200 ∧ ts.length ≤ xs.length
  · obtain ⟨g1, g2⟩ := hgd
    have b1 : ¬ (200 : Int) < xs.length := by omega
    have b2 : ¬ (xs.length : Int) < ts.length := by omega
    obtain ⟨n, hn, hn64⟩ : ∃ n : Nat, (d : Int) % 65 = (n : Int) ∧ n ≤ 64 := ⟨d % 65, by omega, by omega⟩
    have HN1 := Lib.hid (fun W => CC.out.new (n : Int) W ⟨by omega, by omega⟩)
    go_enter Try.func4, Try.ntmps4
    go_wp2_with fail
    refine (awake_true CA.out _).mono ?_
    rintro e w1 ⟨rfl, hb1⟩
    go_wp2_with fail
    refine (HN1.out _).mono ?_
    rintro e w2 ⟨p, ms, rfl, hx, hm, hb2⟩
    have hr := Run.first hx hm hb2 hb1 hb1.size
    have HO := Lib.hid (OS.fresh hr 44 47)
    clear hx hm hb2 hb1 hr HN1
    go_wp2_with fail
    generalize ((w2.alloc (Obj.cells #[Value.pointer (some ⟨p, 0, none⟩)] 44)).alloc (Obj.cells #[Value.slice none 0 0, Value.slice none 0 0] 47)).alloc (Obj.cells #[Value.slice none 0 0, Value.slice none 0 0] 47) = W3 at *
    generalize w2.heap.size + 1 + 1 = ob at *
    generalize w2.heap.size + 1 = ib at *
    generalize w2.heap.size = q at *
    generalize hNN : w.heap.size = N at *
    have HNN := Lib.hid hNN
    clear hNN hn hmf
    go_loopw [11, 40] (fun dr i wr => ∃ (k dd : Nat) (ms' is' os' : List Nat) (x : Qs Int) (L M : Bool → List Int), k ≤ xs.length ∧ dr = .int .i64 dd ∧ i = .int .i64 k ∧ dd ≤ k ∧ Hid (OS F N w wr p ms' x q ib is' L ob os' M ∧ QI x L M dd k n)) (fun _ i _ => xs.length - (intOf i).toNat)
    case atStart => exact ⟨0, 0, _, _, _, _, _, _, Nat.zero_le _, rfl, rfl, Nat.le_refl _, Lib.hid ⟨HO.out, QI.start n hn64⟩⟩
    case round =>
      obtain ⟨k, dd, ms1, is1, os1, x, L, M, hk, rfl, rfl, hdd, hS⟩ := hrel
      clear HO
      by_cases hlt : k < xs.length
      · obtain ⟨bb, of, rfl, hbb, hi⟩ := HI1.out.below hS.out.1.run.below (by omega)
        have cx := hi k hlt
        generalize xs[k] = hi1 at *
        clear hi
        by_cases htk : ∃ ht : k < ts.length, ts[k] = true
        · obtain ⟨ht, htv⟩ := htk
          obtain ⟨bt, ot, rfl, hbt, hit⟩ := HI2.out.below hS.out.1.run.below (by omega)
          have ct := hit k ht
          rw [htv] at ct
          have hti : (k : Int) < ts.length := by omega
          have HPull := Lib.hid (pull_any CC.out ((k : Int) % 3 == 0) hS.out.1 (by have := (hS.out.2.len ((k : Int) % 3 == 0)).2; omega))
          have HQ4 := Lib.hid (hS.out.2.pull ((k : Int) % 3 == 0))
          clear hit htv hS
          go_wp2_with fail
          refine (HPull.out).mono ?_
          rintro e w4 ⟨rfl, ms4, os4, hS4⟩
          clear HPull cx ct
          generalize pullM x M ((k : Int) % 3 == 0) = M4 at *
          generalize takeX x ((k : Int) % 3 == 0) = x4 at *
          have c8 := hS4.c8
          have hok := F.ok hS4.run.at_
          have hrf := room_full hok
          have hpl64 := hok.pl
          have hfit := hok.fits
          have HRo := Lib.hid (CC.out.room p _ x4 _ hS4.run.at_)
          have HPu := Lib.hid (fun ns W hW => CC.out.put p ns x4 (k : Int) hi1 W hW ⟨by omega, by omega⟩)
          have HS4 := Lib.hid hS4
          have HLen := Lib.hid (fun c => (HQ4.out.len c).1)
          clear hS4 hok
          by_cases hf : fullB x4 = true
          · obtain ⟨e1, e2⟩ := HQ4.out.drop hi1 (k : Int) hf
            rw [e1] at HPu
            rw [hrf.2 hf] at HRo
            have HQI := Lib.hid e2
            clear e1 e2 hrf hf HQ4
            generalize putX x4 (k : Int) hi1 = x5 at *
            go_wp2_with fail
            refine (HRo.out).mono ?_
            rintro e w5 ⟨rfl, kd, hw5⟩
            have HS5 := Lib.hid (HS4.out.drewN kd)
            rw [← hw5] at HS5
            clear c8
            have c8 := HS5.out.c8
            clear hw5 HS4
            go_wp2_with fail
            refine (HPu.out _ _ HS5.out.run.at_).mono ?_
            rintro e w6 ⟨rfl, ms6, hx6, ho6, hn6⟩
            have HQ6 := Lib.hid (HS5.out.queue hx6 ho6 hn6)
            clear hx6 ho6 hn6 c8 HS5 HPu HRo
            go_wp2
            go_roundw
            case rel => exact ⟨k + 1, dd + 1, _, _, _, _, _, _, by omega, by go_num, by go_num, by omega, Lib.hid ⟨HQ6.out, HQI.out⟩⟩
            case measure => simp [intOf]; omega
          · replace hf : fullB x4 = false := by simpa using hf
            obtain ⟨e1, e2⟩ := HQ4.out.put hi1 (k : Int) hf
            rw [e1] at HPu
            have hrm : 0 < roomN x4 := by
              rcases Nat.eq_zero_or_pos (roomN x4) with h0 | h0
              · rw [hrf.1 h0] at hf; cases hf
              · exact h0
            have hrm64 : roomN x4 ≤ 64 := by unfold roomN; omega
            have HQI := Lib.hid e2
            clear e1 e2 hrf hf HQ4
            generalize putX x4 (k : Int) hi1 = x5 at *
            generalize roomN x4 = rm at *
            have hrmi : (0 : Int) < rm := by omega
            go_wp2_with fail
            refine (HRo.out).mono ?_
            rintro e w5 ⟨rfl, kd, hw5⟩
            have HS5 := Lib.hid (HS4.out.drewN kd)
            rw [← hw5] at HS5
            clear c8
            have c8 := HS5.out.c8
            clear hw5 HS4
            go_wp2_with fail
            refine (HPu.out _ _ HS5.out.run.at_).mono ?_
            rintro e w6 ⟨rfl, ms6, hx6, ho6, hn6⟩
            have hQ6 := HS5.out.queue hx6 ho6 hn6
            clear hx6 ho6 hn6 c8 HS5 HPu HRo
            cases hi1
            · obtain ⟨i0, hi0, hi1x, hi2, hi3⟩ := info_parts infoInt
              have HI := Lib.hid (⟨hi0, hi1x, hi2, hi3⟩ : _ ∧ _ ∧ _ ∧ _)
              clear hi0 hi1x hi2 hi3
              obtain ⟨v, hbs, hv⟩ := hQ6.inn
              have HV := Lib.hid hv
              have HBs := Lib.hid hbs
              have cl : w6.cell? ⟨ib, 0, none⟩ = some (v false) := hv.cl false
              have fz := hv.fz 0
              obtain ⟨A, c, hA, -⟩ := row_form (hv.row false)
              rw [hA] at cl
              have HA := Lib.hid hA
              have HO := Lib.hid (show (w6.alloc (.cells #[.int .i64 (k : Int)] 3)).ownsRow 0 3 1 (.slice A (L false).length c) (L false).length (ints (L false)) from by
                have := World.ownsRow.alloc (hv.row false) (.cells #[.int .i64 (k : Int)] 3)
                rw [hA] at this
                exact this)
              have hbw : ib < w6.heap.size := World.block_lt_of_cell? w6 ⟨ib, 0, none⟩ cl
              have HLt := Lib.hid (show ib < (w6.alloc (.cells #[.int .i64 (k : Int)] 3)).heap.size by simp; omega)
              have HBk := Lib.hid ((alloc_below w6 (.cells #[.int .i64 (k : Int)] 3)).block ib hbw)
              have HNB := Lib.hid (show (Value.slice A (L false).length c).ownBlock ≠ some ib from by have := hv.nb false; rw [hA] at this; exact this)
              have hLl := HLen.out false
              have HQ6 := Lib.hid hQ6
              clear hv hA hbs hQ6
              go_wp2_with (at_builtin; refine wpList_append_lies _ rfl (.tmp 77) (.tmp 79) 46 rfl 0 3 i0 (.int .i64 0) 1 8 Try.underlying46 HI.out.1 HI.out.2.1 HI.out.2.2.1 HI.out.2.2.2 rfl (by decide) _ (L false).length (ints (L false)) rfl HO.out ⟨w6.heap.size, 0, none⟩ 1 1 [.int .i64 (k : Int)] rfl rfl (cell_one_new _ _ _) (by intro u hu; simp at hu; subst hu; rfl) (by decide) (by unfold maxLen; omega) (by omega) (Nat.zero_le _) _ rfl ?_)
              intro g cp w7 hown hgr hat hltg
              have q0 := (World.cell?_of_block (a := ⟨ib, 0, none⟩) ((hgr.block ib HLt.out (fun e => HNB.out e.symm)).trans HBk.out)).trans cl
              have q1 := (World.frozen?_of_block (a := ⟨ib, 0, none⟩) ((hgr.block ib HLt.out (fun e => HNB.out e.symm)).trans HBk.out)).trans fz
              have hd0 := duo_append (h := false) HV.out (alloc_below w6 (.cells #[.int .i64 (k : Int)] 3)) (by rw [HA.out]; exact hgr) hown (by rw [HA.out]; exact hat.imp id (fun e => by rw [e]; simp))
              rw [← HBs.out] at hd0
              have HD := Lib.hid hd0
              clear hown hgr hat hltg cl fz hd0
              go_wp2
              go_roundw
              case rel =>
                obtain ⟨bs', z1, z2, z3⟩ := HD.out
                exact ⟨k + 1, dd, _, _, _, _, _, _, by omega, rfl, by go_num, by omega, Lib.hid ⟨HQ6.out.came z1 z2 z3, HQI.out⟩⟩
              case measure => simp [intOf]; omega
            · obtain ⟨i0, hi0, hi1x, hi2, hi3⟩ := info_parts infoInt
              have HI := Lib.hid (⟨hi0, hi1x, hi2, hi3⟩ : _ ∧ _ ∧ _ ∧ _)
              clear hi0 hi1x hi2 hi3
              obtain ⟨v, hbs, hv⟩ := hQ6.inn
              have HV := Lib.hid hv
              have HBs := Lib.hid hbs
              have cl : w6.cell? ⟨ib, 1, none⟩ = some (v true) := hv.cl true
              have fz := hv.fz 1
              obtain ⟨A, c, hA, -⟩ := row_form (hv.row true)
              rw [hA] at cl
              have HA := Lib.hid hA
              have HO := Lib.hid (show (w6.alloc (.cells #[.int .i64 (k : Int)] 3)).ownsRow 0 3 1 (.slice A (L true).length c) (L true).length (ints (L true)) from by
                have := World.ownsRow.alloc (hv.row true) (.cells #[.int .i64 (k : Int)] 3)
                rw [hA] at this
                exact this)
              have hbw : ib < w6.heap.size := World.block_lt_of_cell? w6 ⟨ib, 1, none⟩ cl
              have HLt := Lib.hid (show ib < (w6.alloc (.cells #[.int .i64 (k : Int)] 3)).heap.size by simp; omega)
              have HBk := Lib.hid ((alloc_below w6 (.cells #[.int .i64 (k : Int)] 3)).block ib hbw)
              have HNB := Lib.hid (show (Value.slice A (L true).length c).ownBlock ≠ some ib from by have := hv.nb true; rw [hA] at this; exact this)
              have hLl := HLen.out true
              have HQ6 := Lib.hid hQ6
              clear hv hA hbs hQ6
              go_wp2_with (at_builtin; refine wpList_append_lies _ rfl (.tmp 77) (.tmp 79) 46 rfl 0 3 i0 (.int .i64 0) 1 8 Try.underlying46 HI.out.1 HI.out.2.1 HI.out.2.2.1 HI.out.2.2.2 rfl (by decide) _ (L true).length (ints (L true)) rfl HO.out ⟨w6.heap.size, 0, none⟩ 1 1 [.int .i64 (k : Int)] rfl rfl (cell_one_new _ _ _) (by intro u hu; simp at hu; subst hu; rfl) (by decide) (by unfold maxLen; omega) (by omega) (Nat.zero_le _) _ rfl ?_)
              intro g cp w7 hown hgr hat hltg
              have q0 := (World.cell?_of_block (a := ⟨ib, 1, none⟩) ((hgr.block ib HLt.out (fun e => HNB.out e.symm)).trans HBk.out)).trans cl
              have q1 := (World.frozen?_of_block (a := ⟨ib, 1, none⟩) ((hgr.block ib HLt.out (fun e => HNB.out e.symm)).trans HBk.out)).trans fz
              have hd0 := duo_append (h := true) HV.out (alloc_below w6 (.cells #[.int .i64 (k : Int)] 3)) (by rw [HA.out]; exact hgr) hown (by rw [HA.out]; exact hat.imp id (fun e => by rw [e]; simp))
              rw [← HBs.out] at hd0
              have HD := Lib.hid hd0
              clear hown hgr hat hltg cl fz hd0
              go_wp2
              go_roundw
              case rel =>
                obtain ⟨bs', z1, z2, z3⟩ := HD.out
                exact ⟨k + 1, dd, _, _, _, _, _, _, by omega, rfl, by go_num, by omega, Lib.hid ⟨HQ6.out.came z1 z2 z3, HQI.out⟩⟩
              case measure => simp [intOf]; omega

        · have HQ4 := Lib.hid hS.out.2
          have hS4 := hS.out.1
          clear hS
          generalize hx4 : x = x4 at *
          clear hx4
          by_cases ht : k < ts.length
          · have htv : ts[k] = false := by
              cases hh : ts[k]
              · rfl
              · exact absurd ⟨ht, hh⟩ htk
            obtain ⟨bt, ot, rfl, hbt, hit⟩ := HI2.out.below hS4.run.below (by omega)
            have ct := hit k ht
            rw [htv] at ct
            have hti : (k : Int) < ts.length := by omega
            clear hit htv htk
            have c8 := hS4.c8
            have hok := F.ok hS4.run.at_
            have hrf := room_full hok
            have hpl64 := hok.pl
            have hfit := hok.fits
            have HRo := Lib.hid (CC.out.room p _ x4 _ hS4.run.at_)
            have HPu := Lib.hid (fun ns W hW => CC.out.put p ns x4 (k : Int) hi1 W hW ⟨by omega, by omega⟩)
            have HS4 := Lib.hid hS4
            have HLen := Lib.hid (fun c => (HQ4.out.len c).1)
            clear hS4 hok
            by_cases hf : fullB x4 = true
            · obtain ⟨e1, e2⟩ := HQ4.out.drop hi1 (k : Int) hf
              rw [e1] at HPu
              rw [hrf.2 hf] at HRo
              have HQI := Lib.hid e2
              clear e1 e2 hrf hf HQ4
              generalize putX x4 (k : Int) hi1 = x5 at *
              go_wp2_with fail
              refine (HRo.out).mono ?_
              rintro e w5 ⟨rfl, kd, hw5⟩
              have HS5 := Lib.hid (HS4.out.drewN kd)
              rw [← hw5] at HS5
              clear c8
              have c8 := HS5.out.c8
              clear hw5 HS4
              go_wp2_with fail
              refine (HPu.out _ _ HS5.out.run.at_).mono ?_
              rintro e w6 ⟨rfl, ms6, hx6, ho6, hn6⟩
              have HQ6 := Lib.hid (HS5.out.queue hx6 ho6 hn6)
              clear hx6 ho6 hn6 c8 HS5 HPu HRo
              go_wp2
              go_roundw
              case rel => exact ⟨k + 1, dd + 1, _, _, _, _, _, _, by omega, by go_num, by go_num, by omega, Lib.hid ⟨HQ6.out, HQI.out⟩⟩
              case measure => simp [intOf]; omega
            · replace hf : fullB x4 = false := by simpa using hf
              obtain ⟨e1, e2⟩ := HQ4.out.put hi1 (k : Int) hf
              rw [e1] at HPu
              have hrm : 0 < roomN x4 := by
                rcases Nat.eq_zero_or_pos (roomN x4) with h0 | h0
                · rw [hrf.1 h0] at hf; cases hf
                · exact h0
              have hrm64 : roomN x4 ≤ 64 := by unfold roomN; omega
              have HQI := Lib.hid e2
              clear e1 e2 hrf hf HQ4
              generalize putX x4 (k : Int) hi1 = x5 at *
              generalize roomN x4 = rm at *
              have hrmi : (0 : Int) < rm := by omega
              go_wp2_with fail
              refine (HRo.out).mono ?_
              rintro e w5 ⟨rfl, kd, hw5⟩
              have HS5 := Lib.hid (HS4.out.drewN kd)
              rw [← hw5] at HS5
              clear c8
              have c8 := HS5.out.c8
              clear hw5 HS4
              go_wp2_with fail
              refine (HPu.out _ _ HS5.out.run.at_).mono ?_
              rintro e w6 ⟨rfl, ms6, hx6, ho6, hn6⟩
              have hQ6 := HS5.out.queue hx6 ho6 hn6
              clear hx6 ho6 hn6 c8 HS5 HPu HRo
              cases hi1
              · obtain ⟨i0, hi0, hi1x, hi2, hi3⟩ := info_parts infoInt
                have HI := Lib.hid (⟨hi0, hi1x, hi2, hi3⟩ : _ ∧ _ ∧ _ ∧ _)
                clear hi0 hi1x hi2 hi3
                obtain ⟨v, hbs, hv⟩ := hQ6.inn
                have HV := Lib.hid hv
                have HBs := Lib.hid hbs
                have cl : w6.cell? ⟨ib, 0, none⟩ = some (v false) := hv.cl false
                have fz := hv.fz 0
                obtain ⟨A, c, hA, -⟩ := row_form (hv.row false)
                rw [hA] at cl
                have HA := Lib.hid hA
                have HO := Lib.hid (show (w6.alloc (.cells #[.int .i64 (k : Int)] 3)).ownsRow 0 3 1 (.slice A (L false).length c) (L false).length (ints (L false)) from by
                  have := World.ownsRow.alloc (hv.row false) (.cells #[.int .i64 (k : Int)] 3)
                  rw [hA] at this
                  exact this)
                have hbw : ib < w6.heap.size := World.block_lt_of_cell? w6 ⟨ib, 0, none⟩ cl
                have HLt := Lib.hid (show ib < (w6.alloc (.cells #[.int .i64 (k : Int)] 3)).heap.size by simp; omega)
                have HBk := Lib.hid ((alloc_below w6 (.cells #[.int .i64 (k : Int)] 3)).block ib hbw)
                have HNB := Lib.hid (show (Value.slice A (L false).length c).ownBlock ≠ some ib from by have := hv.nb false; rw [hA] at this; exact this)
                have hLl := HLen.out false
                have HQ6 := Lib.hid hQ6
                clear hv hA hbs hQ6
                go_wp2_with (at_builtin; refine wpList_append_lies _ rfl (.tmp 77) (.tmp 79) 46 rfl 0 3 i0 (.int .i64 0) 1 8 Try.underlying46 HI.out.1 HI.out.2.1 HI.out.2.2.1 HI.out.2.2.2 rfl (by decide) _ (L false).length (ints (L false)) rfl HO.out ⟨w6.heap.size, 0, none⟩ 1 1 [.int .i64 (k : Int)] rfl rfl (cell_one_new _ _ _) (by intro u hu; simp at hu; subst hu; rfl) (by decide) (by unfold maxLen; omega) (by omega) (Nat.zero_le _) _ rfl ?_)
                intro g cp w7 hown hgr hat hltg
                have q0 := (World.cell?_of_block (a := ⟨ib, 0, none⟩) ((hgr.block ib HLt.out (fun e => HNB.out e.symm)).trans HBk.out)).trans cl
                have q1 := (World.frozen?_of_block (a := ⟨ib, 0, none⟩) ((hgr.block ib HLt.out (fun e => HNB.out e.symm)).trans HBk.out)).trans fz
                have hd0 := duo_append (h := false) HV.out (alloc_below w6 (.cells #[.int .i64 (k : Int)] 3)) (by rw [HA.out]; exact hgr) hown (by rw [HA.out]; exact hat.imp id (fun e => by rw [e]; simp))
                rw [← HBs.out] at hd0
                have HD := Lib.hid hd0
                clear hown hgr hat hltg cl fz hd0
                go_wp2
                go_roundw
                case rel =>
                  obtain ⟨bs', z1, z2, z3⟩ := HD.out
                  exact ⟨k + 1, dd, _, _, _, _, _, _, by omega, rfl, by go_num, by omega, Lib.hid ⟨HQ6.out.came z1 z2 z3, HQI.out⟩⟩
                case measure => simp [intOf]; omega
              · obtain ⟨i0, hi0, hi1x, hi2, hi3⟩ := info_parts infoInt
                have HI := Lib.hid (⟨hi0, hi1x, hi2, hi3⟩ : _ ∧ _ ∧ _ ∧ _)
                clear hi0 hi1x hi2 hi3
                obtain ⟨v, hbs, hv⟩ := hQ6.inn
                have HV := Lib.hid hv
                have HBs := Lib.hid hbs
                have cl : w6.cell? ⟨ib, 1, none⟩ = some (v true) := hv.cl true
                have fz := hv.fz 1
                obtain ⟨A, c, hA, -⟩ := row_form (hv.row true)
                rw [hA] at cl
                have HA := Lib.hid hA
                have HO := Lib.hid (show (w6.alloc (.cells #[.int .i64 (k : Int)] 3)).ownsRow 0 3 1 (.slice A (L true).length c) (L true).length (ints (L true)) from by
                  have := World.ownsRow.alloc (hv.row true) (.cells #[.int .i64 (k : Int)] 3)
                  rw [hA] at this
                  exact this)
                have hbw : ib < w6.heap.size := World.block_lt_of_cell? w6 ⟨ib, 1, none⟩ cl
                have HLt := Lib.hid (show ib < (w6.alloc (.cells #[.int .i64 (k : Int)] 3)).heap.size by simp; omega)
                have HBk := Lib.hid ((alloc_below w6 (.cells #[.int .i64 (k : Int)] 3)).block ib hbw)
                have HNB := Lib.hid (show (Value.slice A (L true).length c).ownBlock ≠ some ib from by have := hv.nb true; rw [hA] at this; exact this)
                have hLl := HLen.out true
                have HQ6 := Lib.hid hQ6
                clear hv hA hbs hQ6
                go_wp2_with (at_builtin; refine wpList_append_lies _ rfl (.tmp 77) (.tmp 79) 46 rfl 0 3 i0 (.int .i64 0) 1 8 Try.underlying46 HI.out.1 HI.out.2.1 HI.out.2.2.1 HI.out.2.2.2 rfl (by decide) _ (L true).length (ints (L true)) rfl HO.out ⟨w6.heap.size, 0, none⟩ 1 1 [.int .i64 (k : Int)] rfl rfl (cell_one_new _ _ _) (by intro u hu; simp at hu; subst hu; rfl) (by decide) (by unfold maxLen; omega) (by omega) (Nat.zero_le _) _ rfl ?_)
                intro g cp w7 hown hgr hat hltg
                have q0 := (World.cell?_of_block (a := ⟨ib, 1, none⟩) ((hgr.block ib HLt.out (fun e => HNB.out e.symm)).trans HBk.out)).trans cl
                have q1 := (World.frozen?_of_block (a := ⟨ib, 1, none⟩) ((hgr.block ib HLt.out (fun e => HNB.out e.symm)).trans HBk.out)).trans fz
                have hd0 := duo_append (h := true) HV.out (alloc_below w6 (.cells #[.int .i64 (k : Int)] 3)) (by rw [HA.out]; exact hgr) hown (by rw [HA.out]; exact hat.imp id (fun e => by rw [e]; simp))
                rw [← HBs.out] at hd0
                have HD := Lib.hid hd0
                clear hown hgr hat hltg cl fz hd0
                go_wp2
                go_roundw
                case rel =>
                  obtain ⟨bs', z1, z2, z3⟩ := HD.out
                  exact ⟨k + 1, dd, _, _, _, _, _, _, by omega, rfl, by go_num, by omega, Lib.hid ⟨HQ6.out.came z1 z2 z3, HQI.out⟩⟩
                case measure => simp [intOf]; omega

          · have hti : ¬ (k : Int) < ts.length := by omega
            clear htk
            have c8 := hS4.c8
            have hok := F.ok hS4.run.at_
            have hrf := room_full hok
            have hpl64 := hok.pl
            have hfit := hok.fits
            have HRo := Lib.hid (CC.out.room p _ x4 _ hS4.run.at_)
            have HPu := Lib.hid (fun ns W hW => CC.out.put p ns x4 (k : Int) hi1 W hW ⟨by omega, by omega⟩)
            have HS4 := Lib.hid hS4
            have HLen := Lib.hid (fun c => (HQ4.out.len c).1)
            clear hS4 hok
            by_cases hf : fullB x4 = true
            · obtain ⟨e1, e2⟩ := HQ4.out.drop hi1 (k : Int) hf
              rw [e1] at HPu
              rw [hrf.2 hf] at HRo
              have HQI := Lib.hid e2
              clear e1 e2 hrf hf HQ4
              generalize putX x4 (k : Int) hi1 = x5 at *
              go_wp2_with fail
              refine (HRo.out).mono ?_
              rintro e w5 ⟨rfl, kd, hw5⟩
              have HS5 := Lib.hid (HS4.out.drewN kd)
              rw [← hw5] at HS5
              clear c8
              have c8 := HS5.out.c8
              clear hw5 HS4
              go_wp2_with fail
              refine (HPu.out _ _ HS5.out.run.at_).mono ?_
              rintro e w6 ⟨rfl, ms6, hx6, ho6, hn6⟩
              have HQ6 := Lib.hid (HS5.out.queue hx6 ho6 hn6)
              clear hx6 ho6 hn6 c8 HS5 HPu HRo
              go_wp2
              go_roundw
              case rel => exact ⟨k + 1, dd + 1, _, _, _, _, _, _, by omega, by go_num, by go_num, by omega, Lib.hid ⟨HQ6.out, HQI.out⟩⟩
              case measure => simp [intOf]; omega
            · replace hf : fullB x4 = false := by simpa using hf
              obtain ⟨e1, e2⟩ := HQ4.out.put hi1 (k : Int) hf
              rw [e1] at HPu
              have hrm : 0 < roomN x4 := by
                rcases Nat.eq_zero_or_pos (roomN x4) with h0 | h0
                · rw [hrf.1 h0] at hf; cases hf
                · exact h0
              have hrm64 : roomN x4 ≤ 64 := by unfold roomN; omega
              have HQI := Lib.hid e2
              clear e1 e2 hrf hf HQ4
              generalize putX x4 (k : Int) hi1 = x5 at *
              generalize roomN x4 = rm at *
              have hrmi : (0 : Int) < rm := by omega
              go_wp2_with fail
              refine (HRo.out).mono ?_
              rintro e w5 ⟨rfl, kd, hw5⟩
              have HS5 := Lib.hid (HS4.out.drewN kd)
              rw [← hw5] at HS5
              clear c8
              have c8 := HS5.out.c8
              clear hw5 HS4
              go_wp2_with fail
              refine (HPu.out _ _ HS5.out.run.at_).mono ?_
              rintro e w6 ⟨rfl, ms6, hx6, ho6, hn6⟩
              have hQ6 := HS5.out.queue hx6 ho6 hn6
              clear hx6 ho6 hn6 c8 HS5 HPu HRo
              cases hi1
              · obtain ⟨i0, hi0, hi1x, hi2, hi3⟩ := info_parts infoInt
                have HI := Lib.hid (⟨hi0, hi1x, hi2, hi3⟩ : _ ∧ _ ∧ _ ∧ _)
                clear hi0 hi1x hi2 hi3
                obtain ⟨v, hbs, hv⟩ := hQ6.inn
                have HV := Lib.hid hv
                have HBs := Lib.hid hbs
                have cl : w6.cell? ⟨ib, 0, none⟩ = some (v false) := hv.cl false
                have fz := hv.fz 0
                obtain ⟨A, c, hA, -⟩ := row_form (hv.row false)
                rw [hA] at cl
                have HA := Lib.hid hA
                have HO := Lib.hid (show (w6.alloc (.cells #[.int .i64 (k : Int)] 3)).ownsRow 0 3 1 (.slice A (L false).length c) (L false).length (ints (L false)) from by
                  have := World.ownsRow.alloc (hv.row false) (.cells #[.int .i64 (k : Int)] 3)
                  rw [hA] at this
                  exact this)
                have hbw : ib < w6.heap.size := World.block_lt_of_cell? w6 ⟨ib, 0, none⟩ cl
                have HLt := Lib.hid (show ib < (w6.alloc (.cells #[.int .i64 (k : Int)] 3)).heap.size by simp; omega)
                have HBk := Lib.hid ((alloc_below w6 (.cells #[.int .i64 (k : Int)] 3)).block ib hbw)
                have HNB := Lib.hid (show (Value.slice A (L false).length c).ownBlock ≠ some ib from by have := hv.nb false; rw [hA] at this; exact this)
                have hLl := HLen.out false
                have HQ6 := Lib.hid hQ6
                clear hv hA hbs hQ6
                go_wp2_with (at_builtin; refine wpList_append_lies _ rfl (.tmp 77) (.tmp 79) 46 rfl 0 3 i0 (.int .i64 0) 1 8 Try.underlying46 HI.out.1 HI.out.2.1 HI.out.2.2.1 HI.out.2.2.2 rfl (by decide) _ (L false).length (ints (L false)) rfl HO.out ⟨w6.heap.size, 0, none⟩ 1 1 [.int .i64 (k : Int)] rfl rfl (cell_one_new _ _ _) (by intro u hu; simp at hu; subst hu; rfl) (by decide) (by unfold maxLen; omega) (by omega) (Nat.zero_le _) _ rfl ?_)
                intro g cp w7 hown hgr hat hltg
                have q0 := (World.cell?_of_block (a := ⟨ib, 0, none⟩) ((hgr.block ib HLt.out (fun e => HNB.out e.symm)).trans HBk.out)).trans cl
                have q1 := (World.frozen?_of_block (a := ⟨ib, 0, none⟩) ((hgr.block ib HLt.out (fun e => HNB.out e.symm)).trans HBk.out)).trans fz
                have hd0 := duo_append (h := false) HV.out (alloc_below w6 (.cells #[.int .i64 (k : Int)] 3)) (by rw [HA.out]; exact hgr) hown (by rw [HA.out]; exact hat.imp id (fun e => by rw [e]; simp))
                rw [← HBs.out] at hd0
                have HD := Lib.hid hd0
                clear hown hgr hat hltg cl fz hd0
                go_wp2
                go_roundw
                case rel =>
                  obtain ⟨bs', z1, z2, z3⟩ := HD.out
                  exact ⟨k + 1, dd, _, _, _, _, _, _, by omega, rfl, by go_num, by omega, Lib.hid ⟨HQ6.out.came z1 z2 z3, HQI.out⟩⟩
                case measure => simp [intOf]; omega
              · obtain ⟨i0, hi0, hi1x, hi2, hi3⟩ := info_parts infoInt
                have HI := Lib.hid (⟨hi0, hi1x, hi2, hi3⟩ : _ ∧ _ ∧ _ ∧ _)
                clear hi0 hi1x hi2 hi3
                obtain ⟨v, hbs, hv⟩ := hQ6.inn
                have HV := Lib.hid hv
                have HBs := Lib.hid hbs
                have cl : w6.cell? ⟨ib, 1, none⟩ = some (v true) := hv.cl true
                have fz := hv.fz 1
                obtain ⟨A, c, hA, -⟩ := row_form (hv.row true)
                rw [hA] at cl
                have HA := Lib.hid hA
                have HO := Lib.hid (show (w6.alloc (.cells #[.int .i64 (k : Int)] 3)).ownsRow 0 3 1 (.slice A (L true).length c) (L true).length (ints (L true)) from by
                  have := World.ownsRow.alloc (hv.row true) (.cells #[.int .i64 (k : Int)] 3)
                  rw [hA] at this
                  exact this)
                have hbw : ib < w6.heap.size := World.block_lt_of_cell? w6 ⟨ib, 1, none⟩ cl
                have HLt := Lib.hid (show ib < (w6.alloc (.cells #[.int .i64 (k : Int)] 3)).heap.size by simp; omega)
                have HBk := Lib.hid ((alloc_below w6 (.cells #[.int .i64 (k : Int)] 3)).block ib hbw)
                have HNB := Lib.hid (show (Value.slice A (L true).length c).ownBlock ≠ some ib from by have := hv.nb true; rw [hA] at this; exact this)
                have hLl := HLen.out true
                have HQ6 := Lib.hid hQ6
                clear hv hA hbs hQ6
                go_wp2_with (at_builtin; refine wpList_append_lies _ rfl (.tmp 77) (.tmp 79) 46 rfl 0 3 i0 (.int .i64 0) 1 8 Try.underlying46 HI.out.1 HI.out.2.1 HI.out.2.2.1 HI.out.2.2.2 rfl (by decide) _ (L true).length (ints (L true)) rfl HO.out ⟨w6.heap.size, 0, none⟩ 1 1 [.int .i64 (k : Int)] rfl rfl (cell_one_new _ _ _) (by intro u hu; simp at hu; subst hu; rfl) (by decide) (by unfold maxLen; omega) (by omega) (Nat.zero_le _) _ rfl ?_)
                intro g cp w7 hown hgr hat hltg
                have q0 := (World.cell?_of_block (a := ⟨ib, 1, none⟩) ((hgr.block ib HLt.out (fun e => HNB.out e.symm)).trans HBk.out)).trans cl
                have q1 := (World.frozen?_of_block (a := ⟨ib, 1, none⟩) ((hgr.block ib HLt.out (fun e => HNB.out e.symm)).trans HBk.out)).trans fz
                have hd0 := duo_append (h := true) HV.out (alloc_below w6 (.cells #[.int .i64 (k : Int)] 3)) (by rw [HA.out]; exact hgr) hown (by rw [HA.out]; exact hat.imp id (fun e => by rw [e]; simp))
                rw [← HBs.out] at hd0
                have HD := Lib.hid hd0
                clear hown hgr hat hltg cl fz hd0
                go_wp2
                go_roundw
                case rel =>
                  obtain ⟨bs', z1, z2, z3⟩ := HD.out
                  exact ⟨k + 1, dd, _, _, _, _, _, _, by omega, rfl, by go_num, by omega, Lib.hid ⟨HQ6.out.came z1 z2 z3, HQI.out⟩⟩
                case measure => simp [intOf]; omega
      · obtain rfl : k = xs.length := by omega
        have hok := F.ok hS.out.1.run.at_
        have hfit := hok.fits
        have hpl64 := hok.pl
        have hpl := hS.out.2.pl
        have hxf : x.f = decide ((0 : Int) < (dd : Int)) := by rw [hS.out.2.fault, decide_eq_decide]; omega
        have HFa := Lib.hid (fun ms W hx => CC.out.fault p ms x W hx)
        rw [hxf] at HFa
        have HLh := Lib.hid (fun ms W hx => show Calls Try.prog 24 #[.pointer (some ⟨p, 0, none⟩), .bool true] W fun e w' => e = .returned (.int .i64 (x.hi.length : Nat)) ∧ W = w' from CC.out.len p ms (calmX x) true W hx)
        have HLl := Lib.hid (fun ms W hx => show Calls Try.prog 24 #[.pointer (some ⟨p, 0, none⟩), .bool false] W fun e w' => e = .returned (.int .i64 (x.lo.length : Nat)) ∧ W = w' from CC.out.len p ms (calmX x) false W hx)
        have HJ0 := Lib.hid hS.out.2.calm
        have HCnt := Lib.hid hS.out.2.cnt
        have HLL := Lib.hid (fun c => (hS.out.2.len c).1)
        have hT0 := hS.out.1.more (Below.refl wr.heap.size wr).drew
        have c8 := hS.out.1.c8
        have hsum : ¬ (n : Int) < (x.hi.length : Int) + (x.lo.length : Int) := by omega
        clear hS hxf hok hlt HI1 HI2
        go_upto_if 96 with fail
        go_cut [96] (fun s96 wx => s96 = .bool false ∧ ∃ (ms' os' : List Nat) (x' : Qs Int) (M' : Bool → List Int), Hid (OS F N w wx p ms' x' q ib is1 L ob os' M' ∧ QJ x' L M' n))
        case first =>
          go_region_held3 (fun W' => W'.cell? ⟨q, 0, none⟩ = some (.pointer (some ⟨p, 0, none⟩))) (go_keep)
            (first
              | (go_at_call 23; (with_reducible refine (HFa.out _ _ hT0.run.at_).mono ?_); rintro e w4 ⟨rfl, ms4, hx4, ho4, hn4⟩; have hT4 := hT0.queue hx4 ho4 hn4; have y1 := hT4.c8)
              | (go_at_call 24; (first | with_reducible refine (HLh.out _ _ hT4.run.at_).mono ?_ | with_reducible refine (HLl.out _ _ hT4.run.at_).mono ?_); rintro e w5 ⟨rfl, rfl⟩; have y2 := hT4.c8))
          all_goals
            have HT4 := Lib.hid hT4
            clear hT0 hT4 hx4 ho4 hn4 y1 HFa HLh HLl c8
            go_wp2
            go_meet
            case rel => exact ⟨congrArg Value.bool (decide_eq_false (by rw [IntKind.wrap_i64]; omega)), _, _, _, _, Lib.hid ⟨HT4.out, HJ0.out⟩⟩
        case rest =>
          obtain ⟨rfl, hcut⟩ := hcut
          have HG := Lib.hid (show ∃ k, GoodQ F N w p q ib is1 L ob n wc k from by
            obtain ⟨ms', os', x', M', h⟩ := hcut
            exact ⟨_, ms', os', x', M', h.out.1, h.out.2, rfl⟩)
          clear hcut hT0 c8 HFa HLh HLl HJ0 hfit hpl hsum hpl64
          go_wp2_with fail
          go_loopw [17] (fun _ wr => Hid (∃ k, GoodQ F N w p q ib is1 L ob n wr k)) (fun _ wr => least (GoodQ F N w p q ib is1 L ob n wr))
          case atStart => exact HG
          case round =>
            clear HG
            obtain ⟨⟨ms2, os2, x2, M2, hO2, hJ2, hk2⟩, -⟩ := least_spec hrel.out
            have HO2 := Lib.hid hO2
            have HJ2 := Lib.hid hJ2
            have HK2 := Lib.hid hk2
            have hok2 := F.ok hO2.run.at_
            have hfit2 := hok2.fits
            have hpl2 := hok2.pl
            have c8 := hO2.c8
            have Ha := Lib.hid (fun m => (show Calls Try.prog 24 #[.pointer (some ⟨p, 0, none⟩), .bool true] (wr.drewN m) fun e w' => e = .returned (.int .i64 (x2.hi.length : Nat)) ∧ w' = wr.drewN m from (CC.out.len p _ x2 true (wr.drewN m) ((HO2.out).drewN m).run.at_).mono fun _ _ ⟨h1, h2⟩ => ⟨h1, h2.symm⟩))
            have La := Lib.hid (fun m => (show Calls Try.prog 24 #[.pointer (some ⟨p, 0, none⟩), .bool false] (wr.drewN m) fun e w' => e = .returned (.int .i64 (x2.lo.length : Nat)) ∧ w' = wr.drewN m from (CC.out.len p _ x2 false (wr.drewN m) ((HO2.out).drewN m).run.at_).mono fun _ _ ⟨h1, h2⟩ => ⟨h1, h2.symm⟩))
            clear hO2 hJ2 hk2 hok2 hrel
            by_cases hpos : 0 < x2.hi.length + x2.lo.length
            · have hposi : (0 : Int) < (x2.hi.length : Int) + (x2.lo.length : Int) := by omega
              have HLess := Lib.hid (pull_less x2 hpos)
              go_wp2_with fail
              go_quiet ((first
                  | (go_at_call 24; first | with_reducible exact Calls.quiet_of_same (Ha.out _) | with_reducible exact Calls.quiet_of_same (La.out _))))
              have hOa := HO2.out.drewN nq
              replace c8 : (wr.drewN nq).cell? ⟨q, 0, none⟩ = _ := c8
              generalize wr.drewN nq = wa at *
              have HOa := Lib.hid hOa
              clear Ha La HO2 hOa
              have Hb := Lib.hid (fun m => (show Calls Try.prog 24 #[.pointer (some ⟨p, 0, none⟩), .bool true] (wa.drewN m) fun e w' => e = .returned (.int .i64 (x2.hi.length : Nat)) ∧ w' = wa.drewN m from (CC.out.len p _ x2 true (wa.drewN m) ((HOa.out).drewN m).run.at_).mono fun _ _ ⟨h1, h2⟩ => ⟨h1, h2.symm⟩))
              have Lb := Lib.hid (fun m => (show Calls Try.prog 24 #[.pointer (some ⟨p, 0, none⟩), .bool false] (wa.drewN m) fun e w' => e = .returned (.int .i64 (x2.lo.length : Nat)) ∧ w' = wa.drewN m from (CC.out.len p _ x2 false (wa.drewN m) ((HOa.out).drewN m).run.at_).mono fun _ _ ⟨h1, h2⟩ => ⟨h1, h2.symm⟩))
              go_wp2_with fail
              go_quiet ((first
                  | (go_at_call 24; first | with_reducible exact Calls.quiet_of_same (Hb.out _) | with_reducible exact Calls.quiet_of_same (Lb.out _))))
              have hOb := HOa.out.drewN nq
              replace c8 : (wa.drewN nq).cell? ⟨q, 0, none⟩ = _ := c8
              generalize wa.drewN nq = wb at *
              have hl1 := HJ2.out.len true
              have hl2 := HLL.out true
              have HP1 := Lib.hid (pull_any CC.out true hOb (by omega))
              have HJ3 := Lib.hid (HJ2.out.pull true)
              have HJ4 := Lib.hid ((HJ2.out.pull true).pull false)
              clear Hb Lb HOa hOb hl1 hl2 HJ2
              go_wp2_with fail
              refine (HP1.out).mono ?_
              rintro e w4 ⟨rfl, ms4, os4, hO4⟩
              have hl1 := HJ3.out.len false
              have hl2 := HLL.out false
              have HP2 := Lib.hid (pull_any CC.out false hO4 (by omega))
              clear HP1 hO4 hl1 hl2 c8 HJ3
              generalize pullM (takeX x2 true) (pullM x2 M2 true) false = M5 at *
              generalize takeX (takeX x2 true) false = x5 at *
              go_wp2_with fail
              refine (HP2.out).mono ?_
              rintro e w5 ⟨rfl, ms5, os5, hO5⟩
              have HO5 := Lib.hid hO5
              have c8 := hO5.c8
              have hok5 := F.ok hO5.run.at_
              have hfit5 := hok5.fits
              have hpl5 := hok5.pl
              have hless : ¬ (x2.hi.length : Int) + (x2.lo.length : Int) ≤ (x5.hi.length : Int) + (x5.lo.length : Int) := by have := HLess.out; omega
              have Hc := Lib.hid (fun m => (show Calls Try.prog 24 #[.pointer (some ⟨p, 0, none⟩), .bool true] (w5.drewN m) fun e w' => e = .returned (.int .i64 (x5.hi.length : Nat)) ∧ w' = w5.drewN m from (CC.out.len p _ x5 true (w5.drewN m) ((HO5.out).drewN m).run.at_).mono fun _ _ ⟨h1, h2⟩ => ⟨h1, h2.symm⟩))
              have Lc := Lib.hid (fun m => (show Calls Try.prog 24 #[.pointer (some ⟨p, 0, none⟩), .bool false] (w5.drewN m) fun e w' => e = .returned (.int .i64 (x5.lo.length : Nat)) ∧ w' = w5.drewN m from (CC.out.len p _ x5 false (w5.drewN m) ((HO5.out).drewN m).run.at_).mono fun _ _ ⟨h1, h2⟩ => ⟨h1, h2.symm⟩))
              clear HP2 hO5 hok5
              go_wp2_with fail
              go_quiet ((first
                  | (go_at_call 24; first | with_reducible exact Calls.quiet_of_same (Hc.out _) | with_reducible exact Calls.quiet_of_same (Lc.out _))))
              have HO6 := Lib.hid (HO5.out.drewN nq)
              clear Hc Lc HO5 c8
              generalize w5.drewN nq = w6 at *
              have HGd := Lib.hid (show GoodQ F N w p q ib is1 L ob n w6 (x5.hi.length + x5.lo.length) from ⟨_, _, x5, M5, HO6.out, HJ4.out, rfl⟩)
              go_wp2
              go_roundw
              case rel => exact Lib.hid ⟨_, HGd.out⟩
              case measure =>
                have h1 := (least_spec ⟨_, HGd.out⟩).2 _ HGd.out
                have h2 := HK2.out
                have h3 := HLess.out
                omega
            · have hzi : ¬ (0 : Int) < (x2.hi.length : Int) + (x2.lo.length : Int) := by omega
              obtain ⟨heq, hroom⟩ := HJ2.out.done (by omega)
              have HEq := Lib.hid heq
              have hzi2 : (x2.hi.length : Int) + (x2.lo.length : Int) = 0 := by omega
              clear heq
              go_wp2_with fail
              go_quiet ((first
                  | (go_at_call 24; first | with_reducible exact Calls.quiet_of_same (Ha.out _) | with_reducible exact Calls.quiet_of_same (La.out _))))
              have HO7 := Lib.hid (HO2.out.drewN nq)
              clear Ha La HO2 c8 HK2
              generalize wr.drewN nq = w7 at *
              go_wp2_with fail
              go_loopw [119] (fun i wr => ∃ kk : Nat, kk ≤ 2 ∧ i = .int .i64 kk ∧ Hid (OS F N w wr p ms2 x2 q ib is1 L ob os2 M2)) (fun i _ => 2 - (intOf i).toNat)
              case atStart => exact ⟨0, by omega, rfl, HO7⟩
              case round =>
                obtain ⟨kk, hkk, rfl, hO8⟩ := hrel
                clear HO7
                rcases (show kk = 0 ∨ kk = 1 ∨ kk = 2 by omega) with rfl | rfl | rfl
                · have hb0 := 0
                  clear hb0
                  obtain ⟨v1, -, hv1⟩ := hO8.out.inn
                  obtain ⟨v2, -, hv2⟩ := hO8.out.out
                  obtain ⟨A, c1, hA, hlm, -, -⟩ := row_form (hv1.row false)
                  obtain ⟨B, c2, hB, -, -, -⟩ := row_form (hv2.row false)
                  have i0 : wr.cell? ⟨ib, 0, none⟩ = some (v1 false) := hv1.cl false
                  have o0 : wr.cell? ⟨ob, 0, none⟩ = some (v2 false) := hv2.cl false
                  rw [hA] at i0
                  rw [hB, ← HEq.out false] at o0
                  have hLb := HLL.out false
                  clear hv1 hv2 hA hB hlm
                  go_wp2_with fail
                  go_quiet (fail)
                  have HO9 := Lib.hid (hO8.out.drewN nq)
                  replace i0 : (wr.drewN nq).cell? ⟨ib, 0, none⟩ = _ := i0
                  clear o0 hO8
                  generalize wr.drewN nq = w9 at *
                  go_wp2_with fail
                  clear i0
                  go_loopw [135] (fun i wr => ∃ j : Nat, j ≤ (L false).length ∧ i = .int .i64 j ∧ Hid (OS F N w wr p ms2 x2 q ib is1 L ob os2 M2)) (fun i _ => (L false).length - (intOf i).toNat)
                  case atStart => exact ⟨0, Nat.zero_le _, rfl, HO9⟩
                  case round =>
                    obtain ⟨j, hj, rfl, hO8⟩ := hrel
                    clear HO9
                    by_cases hjl : j < (L false).length
                    · obtain ⟨v1, -, hv1⟩ := hO8.out.inn
                      obtain ⟨v2, -, hv2⟩ := hO8.out.out
                      obtain ⟨A, c1, hA, hlm1, hlc1, hel1⟩ := row_form (hv1.row false)
                      obtain ⟨B, c2, hB, hlm2, hlc2, hel2⟩ := row_form (hv2.row false)
                      have hM2 : M2 false = L false := (HEq.out false).symm
                      obtain ⟨gA, rfl, hcA⟩ := hel1 j hjl
                      obtain ⟨gB, rfl, hcB⟩ := hel2 j (by rw [hM2]; exact hjl)
                      have hcB2 : wr.cell? ⟨gB, j, none⟩ = some (.int .i64 (L false)[j]) := by rw [hcB]; simp only [hM2]
                      have i0 : wr.cell? ⟨ib, 0, none⟩ = some (v1 false) := hv1.cl false
                      have o0 : wr.cell? ⟨ob, 0, none⟩ = some (v2 false) := hv2.cl false
                      rw [hA] at i0
                      rw [hB, hM2] at o0
                      clear hv1 hv2 hA hB hel1 hel2 hcB hlm1 hlm2 hlc2 hM2
                      generalize (L false)[j] = el at *
                      go_wp2_with fail
                      go_quiet (fail)
                      have HO9 := Lib.hid (hO8.out.drewN nq)
                      clear hO8 i0 o0 hcA hcB2
                      go_wp2
                      go_roundw
                      case rel => exact ⟨j + 1, by omega, by go_num, HO9⟩
                      case measure => simp [intOf]; omega
                    · obtain rfl : j = (L false).length := by omega
                      go_wp2
                      go_roundw
                      case rel => exact ⟨1, by omega, by first | rfl | go_num, hO8⟩
                      case measure => simp [intOf]
                · have hb0 := 1
                  clear hb0
                  obtain ⟨v1, -, hv1⟩ := hO8.out.inn
                  obtain ⟨v2, -, hv2⟩ := hO8.out.out
                  obtain ⟨A, c1, hA, hlm, -, -⟩ := row_form (hv1.row true)
                  obtain ⟨B, c2, hB, -, -, -⟩ := row_form (hv2.row true)
                  have i0 : wr.cell? ⟨ib, 1, none⟩ = some (v1 true) := hv1.cl true
                  have o0 : wr.cell? ⟨ob, 1, none⟩ = some (v2 true) := hv2.cl true
                  rw [hA] at i0
                  rw [hB, ← HEq.out true] at o0
                  have hLb := HLL.out true
                  clear hv1 hv2 hA hB hlm
                  go_wp2_with fail
                  go_quiet (fail)
                  have HO9 := Lib.hid (hO8.out.drewN nq)
                  replace i0 : (wr.drewN nq).cell? ⟨ib, 1, none⟩ = _ := i0
                  clear o0 hO8
                  generalize wr.drewN nq = w9 at *
                  go_wp2_with fail
                  clear i0
                  go_loopw [135] (fun i wr => ∃ j : Nat, j ≤ (L true).length ∧ i = .int .i64 j ∧ Hid (OS F N w wr p ms2 x2 q ib is1 L ob os2 M2)) (fun i _ => (L true).length - (intOf i).toNat)
                  case atStart => exact ⟨0, Nat.zero_le _, rfl, HO9⟩
                  case round =>
                    obtain ⟨j, hj, rfl, hO8⟩ := hrel
                    clear HO9
                    by_cases hjl : j < (L true).length
                    · obtain ⟨v1, -, hv1⟩ := hO8.out.inn
                      obtain ⟨v2, -, hv2⟩ := hO8.out.out
                      obtain ⟨A, c1, hA, hlm1, hlc1, hel1⟩ := row_form (hv1.row true)
                      obtain ⟨B, c2, hB, hlm2, hlc2, hel2⟩ := row_form (hv2.row true)
                      have hM2 : M2 true = L true := (HEq.out true).symm
                      obtain ⟨gA, rfl, hcA⟩ := hel1 j hjl
                      obtain ⟨gB, rfl, hcB⟩ := hel2 j (by rw [hM2]; exact hjl)
                      have hcB2 : wr.cell? ⟨gB, j, none⟩ = some (.int .i64 (L true)[j]) := by rw [hcB]; simp only [hM2]
                      have i0 : wr.cell? ⟨ib, 1, none⟩ = some (v1 true) := hv1.cl true
                      have o0 : wr.cell? ⟨ob, 1, none⟩ = some (v2 true) := hv2.cl true
                      rw [hA] at i0
                      rw [hB, hM2] at o0
                      clear hv1 hv2 hA hB hel1 hel2 hcB hlm1 hlm2 hlc2 hM2
                      generalize (L true)[j] = el at *
                      go_wp2_with fail
                      go_quiet (fail)
                      have HO9 := Lib.hid (hO8.out.drewN nq)
                      clear hO8 i0 o0 hcA hcB2
                      go_wp2
                      go_roundw
                      case rel => exact ⟨j + 1, by omega, by go_num, HO9⟩
                      case measure => simp [intOf]; omega
                    · obtain rfl : j = (L true).length := by omega
                      go_wp2
                      go_roundw
                      case rel => exact ⟨2, by omega, by first | rfl | go_num, hO8⟩
                      case measure => simp [intOf]
                · obtain ⟨v1, -, hv1⟩ := hO8.out.inn
                  obtain ⟨A, c1, hA, -⟩ := row_form (hv1.row false)
                  obtain ⟨B, c2, hB, -⟩ := row_form (hv1.row true)
                  have i0 : wr.cell? ⟨ib, 0, none⟩ = some (v1 false) := hv1.cl false
                  have i1 : wr.cell? ⟨ib, 1, none⟩ = some (v1 true) := hv1.cl true
                  rw [hA] at i0
                  rw [hB] at i1
                  have c8 := hO8.out.c8
                  have HRo := Lib.hid (CC.out.room p _ x2 wr hO8.out.run.at_)
                  rw [hroom] at HRo
                  have hcnt := HCnt.out
                  have hL0 := HLL.out false
                  have hL1 := HLL.out true
                  have hci : ((L false).length : Int) + ((L true).length : Int) + (dd : Int) = (xs.length : Int) := by omega
                  clear hv1 hA hB hcnt
                  go_wp2_with fail
                  refine (HRo.out).mono ?_
                  rintro e w9 ⟨rfl, kd, rfl⟩
                  go_wp2
                  go_ret
                  exact ⟨by simp, by rw [HNN.out]; exact (hO8.out.drewN kd).run.below⟩
  · have hb : (200 : Int) < xs.length ∨ ((xs.length : Int) ≤ 200 ∧ (xs.length : Int) < ts.length) := by omega
    rcases hb with hb | ⟨hb, hb2⟩
    all_goals
      go_enter Try.func4, Try.ntmps4
      go_wp2_with fail
      refine (awake_true CA.out _).mono ?_
      rintro e w1 ⟨rfl, hb1⟩
      have HB1 := Lib.hid hb1
      clear hb1
      go_wp2
      go_ret
      exact ⟨by simp, HB1.out⟩

end Go.Proofs.Ytpbiigpnbhgilaa.Qu
