/-
  The reference's Put: walked. Conditions: as it states.
-/
import Derived.Test.YtbfjimbffpkkhaaGdRef5
import Derived.Deep.DeepCutAuto
import Derived.Deep.CutRange
namespace Go.Proofs.Ytbfjimbffpkkhaa.Pa
open Go.RowKit

def rputV (n : Nat) (g : Gl) (f : Fr) : Value := .tuple #[.string (S (outB n g f)), .bool (doneB n g f), .int .i64 (errB n g f : Nat)]
/-- The world at the reference's Put. -/
structure Bq (T : List Value) (w W : World) (B b r r' n : Nat) (h : Gl) (f : Fr) : Prop where
  box : FrAt W B 0 f
  gl : RAt T W b r' n h
  only : OnlyL [b, r] w W
  neb : B ≠ b
  ner : h.is = true → B ≠ r'
  new : r' = r ∨ w.heap.size ≤ r'
section
variable {T : List Value} {w W W' : World} {B b r r' n : Nat} {h : Gl} {f : Fr}
theorem Bq.drew (k : Bq T w W B b r r' n h f) : Bq T w W.drew B b r r' n h f := ⟨k.box, k.gl.drew, k.only.drew, k.neb, k.ner, k.new⟩
theorem Bq.next (k : Bq T w W B b r r' n h f) (hb : Below W.heap.size W W') : Bq T w W' B b r r' n h f := ⟨k.box.below hb, k.gl.below hb, k.only.tr (OnlyL.of_below hb), k.neb, k.ner, k.new⟩
theorem RAt.turn (k : RAt T W b r n h) (i s m : Nat) (cs : Array Value) (hm : cs = (strs (List.replicate m [])).toArray) :
    RAt T (((((W.setCell ⟨b, 1, none⟩ (.bool true)).setCell ⟨b, 2, none⟩ (.int .u16 i)).setCell ⟨b, 3, none⟩ (.int .u32 s)).setCell ⟨b, 4, none⟩ (.slice (some ⟨W.heap.size, 0, none⟩) m m)).alloc (.cells cs 9)) b W.heap.size n ⟨true, i, s, List.replicate m []⟩ := by
  subst hm
  have h1 := heap_setCell_same _ b 1 _ _ (.bool true) k.head
  have h2 := heap_setCell_same _ b 2 _ _ (.int .u16 i) h1
  have h3 := heap_setCell_same _ b 3 _ _ (.int .u32 s) h2
  have h4 := heap_setCell_same _ b 4 _ _ (.slice (some ⟨W.heap.size, 0, none⟩) m m) h3
  have hz : ((((W.setCell ⟨b, 1, none⟩ (.bool true)).setCell ⟨b, 2, none⟩ (.int .u16 i)).setCell ⟨b, 3, none⟩ (.int .u32 s)).setCell ⟨b, 4, none⟩ (.slice (some ⟨W.heap.size, 0, none⟩) m m)).heap.size = W.heap.size := by simp
  have hlt := k.lt
  generalize ((((W.setCell ⟨b, 1, none⟩ (.bool true)).setCell ⟨b, 2, none⟩ (.int .u16 i)).setCell ⟨b, 3, none⟩ (.int .u32 s)).setCell ⟨b, 4, none⟩ (.slice (some ⟨W.heap.size, 0, none⟩) m m)) = W4 at *
  refine ⟨?_, fun _ => ⟨?_, by omega⟩⟩
  · rw [Below.heap_alloc W4 _ b (by omega), h4]
    unfold camV
    simp
  · rw [← hz]
    exact heap_alloc_new _ _
theorem Bq.turn {i s m : Nat} {cs : Array Value} {h' : Gl} (k : Bq T w W B b r r' n h f)
    (hr : RAt T (((((W.setCell ⟨b, 1, none⟩ (.bool true)).setCell ⟨b, 2, none⟩ (.int .u16 i)).setCell ⟨b, 3, none⟩ (.int .u32 s)).setCell ⟨b, 4, none⟩ (.slice (some ⟨W.heap.size, 0, none⟩) m m)).alloc (.cells cs 9)) b W.heap.size n h') (hB : B < W.heap.size) :
    Bq T w (((((W.setCell ⟨b, 1, none⟩ (.bool true)).setCell ⟨b, 2, none⟩ (.int .u16 i)).setCell ⟨b, 3, none⟩ (.int .u32 s)).setCell ⟨b, 4, none⟩ (.slice (some ⟨W.heap.size, 0, none⟩) m m)).alloc (.cells cs 9)) B b r W.heap.size n h' f := by
  have ho : OnlyL [b] W (((((W.setCell ⟨b, 1, none⟩ (.bool true)).setCell ⟨b, 2, none⟩ (.int .u16 i)).setCell ⟨b, 3, none⟩ (.int .u32 s)).setCell ⟨b, 4, none⟩ (.slice (some ⟨W.heap.size, 0, none⟩) m m)).alloc (.cells cs 9)) :=
    ((((OnlyL.set (by simp) _ _).tr (OnlyL.set (by simp) _ _)).tr (OnlyL.set (by simp) _ _)).tr (OnlyL.set (by simp) _ _)).tr (OnlyL.of_below (one_S _ _ _))
  refine ⟨k.box.only ho (by simpa using k.neb), hr, k.only.trans ho (fun j hj => .inl (by simp at hj; simp [hj])), k.neb, fun _ => by omega, .inr k.only.size⟩
theorem RAt.put (k : RAt T W b r n h) (hi : h.is = true) (f : Fr) : RAt T (W.setCell ⟨r, f.part, none⟩ (.string (S f.bytes))) b r n (withB h f) := by
  obtain ⟨h1, h2⟩ := k.row hi
  refine ⟨?_, fun _ => ⟨?_, h2⟩⟩
  · rw [set_other (fun e => h2 e.symm), k.head]
    unfold camV withB
    simp [hi]
  · rw [heap_setCell_same _ _ _ _ _ _ h1]
    unfold withB strs
    congr 2
    apply Array.ext'
    simp [List.map_set]
end
theorem join_take {l : List Bs} {k : Nat} (h : k < l.length) : joinB (l.take (k + 1)) = joinB (l.take k) ++ l.getD k [] := by
  unfold joinB
  rw [List.take_succ_eq_append_getElem h, List.getD_eq_getElem?_getD, List.getElem?_eq_getElem h, List.flatten_append, List.flatten_singleton]
  rfl
theorem join_take_len {l : List Bs} (h : ∀ q, (l.getD q []).length ≤ 16) : ∀ k, k ≤ l.length → (joinB (l.take k)).length ≤ 16 * k
  | 0, _ => by simp [joinB]
  | k + 1, hk => by
    have := join_take_len h k (by omega)
    have := h k
    rw [join_take (by omega), List.length_append]
    omega
theorem full_of {l : List Bs} (h : ∀ j, j < l.length → l.getD j [] ≠ []) : fullB l = true := by
  unfold fullB
  rw [List.all_eq_true]
  intro x hx
  obtain ⟨j, hj, rfl⟩ := List.mem_iff_getElem.1 hx
  have := h j hj
  rw [List.getD_eq_getElem?_getD, List.getElem?_eq_getElem hj] at this
  simpa using this
theorem full_no {l : List Bs} {k : Nat} (h : k < l.length) (hx : l.getD k [] = []) : fullB l = false := by
  rw [← Bool.not_eq_true]
  intro hf
  exact full_at hf h hx
theorem sadd (a b : Bs) (h : a.length + b.length ≤ 1000) (W : World) : (Op.stringOp .add (S a) (S b)).run Try.prog W = .ok (.string (S (a ++ b))) W :=
  run_string_add_lists (P := Try.prog) W a b (by omega) (by omega)

attribute [local go_sem ↓] exec_ldF
theorem infoStrS : (Try.prog.info? 9).map (fun i => (i.zero, i.size, i.bytes)) = some (some (.string ⟨#[]⟩), 1, 16) := infoStr
theorem mkStr (n : Nat) (hn : n ≤ 1000) : ∀ w : World, (Instr.makeSlice 23 (.int .i64 (n : Int)) (.int .i64 (n : Int))).run Try.prog w = .ok (.slice (some ⟨w.heap.size, 0, none⟩) n n) (w.alloc (.cells (madeCells #[.string ⟨#[]⟩] n) 9)) := fun w => by
  obtain ⟨i0, hi0, hi1, hi2, hi3⟩ := info_parts infoStr
  have h := run_make (P := Try.prog) w 23 9 i0 _ Try.underlying23 hi0 hi1 .i64 .i64 n n (by omega) (by omega) (by rw [hi3]; omega) (by omega)
  rw [hi2, Int.toNat_natCast, Nat.mul_one] at h
  exact h
theorem made_strs (n : Nat) : madeCells #[Value.string ⟨#[]⟩] n = (strs (List.replicate n [])).toArray := by
  apply Array.ext'
  rw [toList_madeCells_one]
  simp [strs, S]

set_option maxRecDepth 100000 in
set_option maxHeartbeats 4000000 in
theorem rPut (T : List Value) (b r n : Nat) (g : Gl) (f : Fr) (w : World) (hg : RAt T w b r n g) (hw : WG n g) (hn : 1 ≤ n ∧ n ≤ 64) (hf : FitF f) (hl : f.bytes.length ≤ maxLen) :
    Calls Try.prog 33 #[.pointer (some ⟨b, 0, none⟩), .agg (frA f)] w fun e w' => e = .returned (rputV n g f) ∧ ∃ r', RAt T w' b r' n (putG n g f) ∧ OnlyL [b, r] w w' ∧ (r' = r ∨ w.heap.size ≤ r') := by
  have hblt := hg.lt
  have HP := Lib.hid (show Bq T w (w.alloc (.cells (frA f) 33)) w.heap.size b r r n g f from
    ⟨FrAt.new _ _ _, hg.below (one_S _ _ _), OnlyL.of_below (one_S _ _ _), by omega, fun hi => (by have := hg.rlt hi; omega), .inl rfl⟩)
  have x0 := frA_0 f
  have c0 := HP.out.gl.c0
  by_cases hk : f.kind = 4
  · have e1 : (f.kind != 4) = false := by simp [hk]
    have HLn := Lib.hid (fun W => rlengths n W hn.2)
    have hp1 : (f.part : Int) ≤ 255 := by have := hf.pt; omega
    have hp2 : (f.parts : Int) ≤ 255 := by have := hf.ps; omega
    have hll := lens_len n
    have HLa := Lib.hid (fun p h => lens_at (n := n) (p := p) h)
    have hpn := pN_bd hn.1 hn.2
    have hmi : (f.bytes.length : Int) ≤ 9223372036854775807 := by unfold maxLen at hl; omega
    have hs := S_size f.bytes
    clear hg
    go_enter Try.func33, Try.ntmps33
    go_wp2_with fail
    refine world_cut (G := fun W => Calls _ _ _ W _) (fun W => Bq T w W w.heap.size b r r n g f) (by exact HP.out) ?_
    rintro W hP
    have HQ := Lib.hid hP
    clear HP hP c0
    generalize w.heap.size = B at *
    refine (HLn.out W).mono ?_
    rintro e w1 ⟨t, rfl, ht, hb1⟩
    have HQ1 := Lib.hid (HQ.out.next hb1)
    clear HQ hb1 HLn
    obtain ⟨A, c, rfl⟩ := own_form ht
    obtain ⟨q, rfl⟩ := SRow.form ht (by rw [hll]; omega)
    have HT := Lib.hid (fun p (h : p < (lens n).length) => ht.cellAt h)
    rw [hll]
    clear ht
    have x16 := HQ1.out.box.at 16 rfl
    have x17 := HQ1.out.box.at 17 rfl
    have x18 := HQ1.out.box.at 18 rfl
    go_wp2
    go_upto_region 4 with fail
    go_cut [43] (fun s43 wx => s43 = .bool (!fitsB n f) ∧ Hid (Bq T w wx B b r r n g f))
    case first =>
      by_cases h1 : f.parts = pN n
      · have d1 : (((f.parts : Nat) : Int) != ((pN n : Nat) : Int)) = false := by simp [h1]
        by_cases h2 : f.part < pN n
        · have d2 : decide (pN n ≤ f.part) = false := by simp; omega
          have y0 := HT.out f.part (by rw [hll]; exact h2)
          have hz := HLa.out f.part h2
          have hs2 := S_size ((lens n).getD f.part [])
          rw [hz] at hs2
          have hR : (((f.bytes.length : Nat) : Int) != ((pL n f.part : Nat) : Int)) = !fitsB n f := by
            rw [Bool.eq_iff_iff, bne_iff_ne, Bool.not_eq_true', ← Bool.not_eq_true, fits_iff]
            exact ⟨fun h h' => h (by rw [h'.2.2]), fun h h' => h ⟨h1, h2, by omega⟩⟩
          have HR := Lib.hid hR
          generalize (lens n).getD f.part [] = z at *
          clear hz hR
          go_quiet (fail)
          go_wp2
          go_meet
          exact ⟨by rw [← HR.out], Lib.hid (HQ1.out.next (below_drewN _ _ _))⟩
        · have d2 : decide (pN n ≤ f.part) = true := by simp; omega
          have hR : fitsB n f = false := by rw [← Bool.not_eq_true, fits_iff]; exact fun h => h2 h.2.1
          go_quiet (fail)
          go_wp2
          go_meet
          exact ⟨by rw [hR]; rfl, Lib.hid (HQ1.out.next (below_drewN _ _ _))⟩
      · have d1 : (((f.parts : Nat) : Int) != ((pN n : Nat) : Int)) = true := by rw [bne_iff_ne]; omega
        have hR : fitsB n f = false := by rw [← Bool.not_eq_true, fits_iff]; exact fun h => h1 h.1
        go_quiet (fail)
        go_wp2
        go_meet
        exact ⟨by rw [hR]; rfl, Lib.hid (HQ1.out.next (below_drewN _ _ _))⟩
    case rest =>
      obtain ⟨h43, HQ2⟩ := hcut
      clear HQ1 HT HLa x16 x17 x18 x0
      by_cases hfit : fitsB n f = true
      · simp only [hfit, Bool.not_true] at h43
        subst h43
        obtain ⟨hq1, hq2, hq3⟩ := fits_iff.1 hfit
        have x14 := HQ2.out.box.at 14 rfl
        have x15 := HQ2.out.box.at 15 rfl
        have c1 := HQ2.out.gl.c1
        have c2 := HQ2.out.gl.c2
        have c3 := HQ2.out.gl.c3
        have HN1 := Lib.hid (fun W => rNumber f.vinc f.vseq W hf.vi hf.vs)
        have HN2 := Lib.hid (fun W => rNumber g.inc g.seq W hw.inc hw.seq)
        have HQ2' := HQ2
        go_upto_region 6 with fail
        go_cut [58] (fun s58 wx => s58 = .bool (olderB g f) ∧ Hid (Bq T w wx B b r r n g f))
        case first =>
          cases hi : g.is
          · rw [hi] at c1
            have hR : olderB g f = false := by unfold olderB; rw [hi]; rfl
            go_quiet (fail)
            go_wp2
            go_meet
            exact ⟨by rw [hR], Lib.hid (HQ2.out.next (below_drewN _ _ _))⟩
          · rw [hi] at c1
            have hR : olderB g f = decide (numV f.vinc f.vseq < numV g.inc g.seq) := by unfold olderB; rw [hi, Bool.true_and]
            have HR := Lib.hid hR
            clear hR
            generalize numV f.vinc f.vseq = V1 at *
            generalize numV g.inc g.seq = V2 at *
            have hP1 := HQ2.out.drew
            go_region_held3 (fun W' => W'.cell? ⟨b, 1, none⟩ = some (.bool true) ∧ W'.cell? ⟨B, 14, none⟩ = some (.int .u16 f.vinc) ∧ W'.cell? ⟨B, 15, none⟩ = some (.int .u32 f.vseq) ∧ W'.cell? ⟨b, 2, none⟩ = some (.int .u16 g.inc) ∧ W'.cell? ⟨b, 3, none⟩ = some (.int .u32 g.seq)) (first | exact ⟨c1, x14, x15, c2, c3⟩ | exact ⟨hi ▸ hP1.gl.c1, hP1.box.at 14 rfl, hP1.box.at 15 rfl, hP1.gl.c2, hP1.gl.c3⟩)
              ((go_at_call 24; (first | (with_reducible refine (HN1.out _).mono ?_) | (with_reducible refine (HN2.out _).mono ?_)); rintro e w2 ⟨rfl, hb3⟩; have hP2 := hP1.next hb3; clear hb3 hP1; have hP1 := hP2; clear hP2))
            all_goals
              have HZ := Lib.hid hP1
              clear hP1
              go_wp2
              go_meet
              exact ⟨by rw [HR.out], HZ⟩
        case rest =>
          obtain ⟨h58, HQ3⟩ := hcut
          clear HQ2 HQ2' x14 x15 c1 c2 c3
          by_cases ho : olderB g f = true
          · rw [ho] at h58
            subst h58
            have hE : errB n g f = 1 := by unfold errB; rw [if_pos hk, if_pos hfit, if_pos ho]
            have hd : doneB n g f = false := by unfold doneB; simp [hE]
            have HE := Lib.hid (show rputV n g f = .tuple #[.string ⟨#[]⟩, .bool false, .int .i64 1] ∧ putG n g f = g from by
              refine ⟨?_, by unfold putG; rw [if_neg (by omega)]⟩
              unfold rputV outB
              rw [hd, hE]
              rfl)
            clear hE hd ho HN1 HN2
            go_wp2
            go_ret3
            exact ⟨by rw [HE.out.1]; rfl, r, by rw [HE.out.2]; exact HQ3.out.gl, HQ3.out.only, .inl rfl⟩
          · have ho' := eq_false_of_ne_true ho
            rw [ho'] at h58
            subst h58
            clear ho
            have x14 := HQ3.out.box.at 14 rfl
            have x15 := HQ3.out.box.at 15 rfl
            have c1 := HQ3.out.gl.c1
            have c2 := HQ3.out.gl.c2
            have c3 := HQ3.out.gl.c3
            go_upto_region 8 with fail
            go_cut [74] (fun s74 wx => s74 = .bool (newerB g f) ∧ Hid (Bq T w wx B b r r n g f))
            case first =>
              cases hi : g.is
              · rw [hi] at c1
                have hR : newerB g f = true := by unfold newerB; rw [hi, Bool.not_false, Bool.true_or]
                go_quiet (fail)
                go_wp2
                go_meet
                exact ⟨by rw [hR], Lib.hid (HQ3.out.next (below_drewN _ _ _))⟩
              · rw [hi] at c1
                have hR : newerB g f = decide (numV g.inc g.seq < numV f.vinc f.vseq) := by unfold newerB; rw [hi, Bool.not_true, Bool.false_or]
                have HR := Lib.hid hR
                clear hR
                generalize numV f.vinc f.vseq = V1 at *
                generalize numV g.inc g.seq = V2 at *
                have hP1 := HQ3.out.drew
                go_region_held3 (fun W' => W'.cell? ⟨b, 1, none⟩ = some (.bool true) ∧ W'.cell? ⟨B, 14, none⟩ = some (.int .u16 f.vinc) ∧ W'.cell? ⟨B, 15, none⟩ = some (.int .u32 f.vseq) ∧ W'.cell? ⟨b, 2, none⟩ = some (.int .u16 g.inc) ∧ W'.cell? ⟨b, 3, none⟩ = some (.int .u32 g.seq)) (first | exact ⟨c1, x14, x15, c2, c3⟩ | exact ⟨hi ▸ hP1.gl.c1, hP1.box.at 14 rfl, hP1.box.at 15 rfl, hP1.gl.c2, hP1.gl.c3⟩)
                  ((go_at_call 24; (first | (with_reducible refine (HN1.out _).mono ?_) | (with_reducible refine (HN2.out _).mono ?_)); rintro e w2 ⟨rfl, hb3⟩; have hP2 := hP1.next hb3; clear hb3 hP1; have hP1 := hP2; clear hP2))
                all_goals
                  have HZ := Lib.hid hP1
                  clear hP1
                  go_wp2
                  go_meet
                  exact ⟨by rw [HR.out], HZ⟩
            case rest =>
              obtain ⟨h74, HQ4⟩ := hcut
              clear HQ3 x14 x15 c1 c2 c3 HN1 HN2
              go_upto_if 74 with fail
              go_cut [] (fun wx => ∃ r' : Nat, Hid (Bq T w wx B b r r' n (freshG n g f) f))
              case first =>
                by_cases hnw : newerB g f = true
                · rw [hnw] at h74
                  subst h74
                  have hfr : freshG n g f = ⟨true, f.vinc, f.vseq, List.replicate (pN n) []⟩ := by unfold freshG; rw [if_pos hnw]
                  have x14 := HQ4.out.box.at 14 rfl
                  have x15 := HQ4.out.box.at 15 rfl
                  have c1 := HQ4.out.gl.c1
                  have c2 := HQ4.out.gl.c2
                  have c3 := HQ4.out.gl.c3
                  have c4 := HQ4.out.gl.c4
                  have f1 := HQ4.out.gl.free 1
                  have f2 := HQ4.out.gl.free 2
                  have f3 := HQ4.out.gl.free 3
                  have f4 := HQ4.out.gl.free 4
                  have hneb := HQ4.out.neb
                  have hlt4 := HQ4.out.gl.lt
                  have hmk := mkStr (pN n) (by omega)
                  have HT2 := Lib.hid (HQ4.out.gl.turn f.vinc f.vseq (pN n) _ (made_strs (pN n)))
                  have HFr := Lib.hid hfr
                  have HBx := Lib.hid HQ4.out.box.lt
                  clear hfr hnw hw hn hpn hll
                  go_wp2
                  go_meet
                  exact ⟨wc.heap.size, Lib.hid (by rw [HFr.out]; exact HQ4.out.turn HT2.out HBx.out)⟩
                · have hnw' := eq_false_of_ne_true hnw
                  rw [hnw'] at h74
                  subst h74
                  have hfr : freshG n g f = g := by unfold freshG; rw [if_neg hnw]
                  have HFr := Lib.hid hfr
                  clear hfr hnw hnw'
                  go_wp2
                  go_meet
                  exact ⟨r, by rw [HFr.out]; exact HQ4⟩
              case rest =>
                obtain ⟨r', HQ5⟩ := hcut
                clear HQ4 h74
                have hi2 : (freshG n g f).is = true := fresh_is
                have hl2 := fresh_len (f := f) hw
                have c4 := HQ5.out.gl.c4
                unfold camV at c4
                rw [if_pos hi2, hl2] at c4
                have x16 := HQ5.out.box.at 16 rfl
                have x18 := HQ5.out.box.at 18 rfl
                have y0 := HQ5.out.gl.came hi2 (p := f.part) (by omega)
                have yf := HQ5.out.gl.rfree hi2 f.part
                by_cases ht : twiceB n g f = true
                · have hx : (freshG n g f).came.getD f.part [] ≠ [] := by unfold twiceB at ht; simpa using ht
                  have hFg : freshG n g f = g := by
                    unfold freshG at hx ⊢
                    split
                    · rename_i h; rw [if_pos h] at hx; exact absurd (getD_rep _ _) hx
                    · rfl
                  have hE : errB n g f = 14 := by unfold errB; rw [if_pos hk, if_pos hfit, ho', if_neg (by decide), if_pos ht]
                  have hd : doneB n g f = false := by unfold doneB; simp [hE]
                  have HE := Lib.hid (show rputV n g f = .tuple #[.string ⟨#[]⟩, .bool false, .int .i64 14] ∧ putG n g f = g from by
                    refine ⟨?_, by unfold putG; rw [if_neg (by omega)]⟩
                    unfold rputV outB
                    rw [hd, hE]
                    rfl)
                  have HFg := Lib.hid hFg
                  generalize (freshG n g f).came.getD f.part [] = x at *
                  have e3 : (S x).toList.isEmpty = false := by rw [toL, ← Bool.not_eq_true, List.isEmpty_iff]; exact hx
                  clear hE hd ht hx hFg hl2 hi2 hw hn
                  go_wp2
                  go_quiet (fail)
                  go_wp2
                  go_ret3
                  exact ⟨by rw [HE.out.1]; rfl, r', by rw [HE.out.2, ← HFg.out]; exact (HQ5.out.next (below_drewN _ _ _)).gl, (HQ5.out.next (below_drewN _ _ _)).only, HQ5.out.new⟩
                · have ht' := eq_false_of_ne_true ht
                  have hx : (freshG n g f).came.getD f.part [] = [] := by unfold twiceB at ht'; simpa using ht'
                  have hE : errB n g f = 0 := by unfold errB; rw [if_pos hk, if_pos hfit, ho', if_neg (by decide), ht', if_neg (by decide)]
                  rw [hx] at y0
                  have e3 : (S []).toList = [] := toL []
                  have HE0 := Lib.hid hE
                  have HPg := Lib.hid (show withB (freshG n g f) f = putG n g f by unfold putG; rw [if_pos hE])
                  have hw2 := put_wg hw hf
                  have hi3 : (putG n g f).is = true := by unfold putG; rw [if_pos hE]; exact fresh_is
                  have hl3 := hw2.len hi3
                  have hner := HQ5.out.ner hi2
                  have hneb := HQ5.out.neb
                  have hrb := (HQ5.out.gl.row hi2).2
                  have HI2 := Lib.hid hi2
                  have hc4 : ∀ (W : World), RAt T W b r' n (putG n g f) → W.cell? ⟨b, 4, none⟩ = some (.slice (some ⟨r', 0, none⟩) (pN n) (pN n)) := fun W h => by
                    have := h.c4
                    unfold camV at this
                    rwa [if_pos hi3, hl3] at this
                  have HC4 := Lib.hid hc4
                  have HCm := Lib.hid (fun (W : World) (h : RAt T W b r' n (putG n g f)) (k : Nat) (hk : k < pN n) => h.came hi3 (p := k) (by omega))
                  have hlen16 : ∀ q, ((putG n g f).came.getD q []).length ≤ 16 := fun q => by
                    rcases hw2.each q with h | ⟨h1, h2⟩
                    · rw [h]; simp
                    · rw [h2]; exact (pL_bd h1).2.1
                  have H16 := Lib.hid hlen16
                  have HVf := Lib.hid (show fullB (putG n g f).came = false → rputV n g f = .tuple #[.string ⟨#[]⟩, .bool false, .int .i64 0] from fun h => by
                    have hd : doneB n g f = false := by unfold doneB; rw [h, Bool.and_false]
                    unfold rputV outB
                    rw [hd, HE0.out]
                    rfl)
                  have HVt := Lib.hid (show fullB (putG n g f).came = true → rputV n g f = .tuple #[.string (S (joinB (putG n g f).came)), .bool true, .int .i64 0] from fun h => by
                    have hd : doneB n g f = true := by unfold doneB; rw [h, HE0.out]; rfl
                    unfold rputV outB
                    rw [hd, HE0.out]
                    rfl)
                  have HL3 := Lib.hid hl3
                  clear hE ht ht' hx hi2 hl2 hi3 hl3 hw2 hc4 hlen16 hw hn hf hll ho'
                  go_wp2
                  go_quiet (fail)
                  go_wp2
                  have hP1 := HQ5.out.next (below_drewN _ _ nq)
                  have HQ6 := Lib.hid hP1
                  have hQ7 := hP1.drew
                  go_region_held3 (fun W' => W'.cell? ⟨b, 4, none⟩ = some (.slice (some ⟨r', 0, none⟩) (pN n) (pN n)) ∧ W'.cell? ⟨B, 16, none⟩ = some (.int .u8 f.part) ∧ W'.cell? ⟨B, 18, none⟩ = some (.string (S f.bytes))) (first | exact ⟨c4, x16, x18⟩ | (go_simp; done) | (go_keep; done)) (fail)
                  have HP9 := HQ5.out.next (below_drewN _ _ (nq + 1))
                  have HR9 := Lib.hid (show RAt T ((wc.drewN (nq + 1)).setCell ⟨r', f.part, none⟩ (.string (S f.bytes))) b r' n (putG n g f) ∧ OnlyL [b, r] w ((wc.drewN (nq + 1)).setCell ⟨r', f.part, none⟩ (.string (S f.bytes))) from
                    ⟨by rw [← HPg.out]; exact HP9.gl.put HI2.out f, HP9.only.trans (OnlyL.set (ms := [r']) (by simp) _ _) (fun j hj => by
                      have hj : j = r' := by simpa using hj
                      subst hj
                      rcases HP9.new with e | e
                      · exact .inl (by simp [e])
                      · exact .inr e)⟩)
                  have HNw := Lib.hid HP9.new
                  clear HP9 hQ7 HQ6 hP1
                  go_wp2
                  refine world_cut (G := fun W => Code.wp _ _ _ _ W) (fun W => RAt T W b r' n (putG n g f) ∧ OnlyL [b, r] w W) (by exact HR9.out) ?_
                  rintro W9 hR
                  have c5 := HC4.out W9 hR.1
                  have HCw := Lib.hid (fun k hk => HCm.out W9 hR.1 k hk)
                  have HRo := Lib.hid hR
                  clear hR HR9 HQ5 HC4 HCm c4 x16 x18 y0 yf HPg HI2 HE0
                  generalize hY : (putG n g f).came = l at *
                  have HLL := Lib.hid (fun k hk => join_take_len (k := k) H16.out hk)
                  go_loop [8, 9] (fun t i => ∃ k : Nat, k ≤ pN n ∧ i = .int .i64 k ∧ t = .string (S (joinB (l.take k))) ∧ Hid (∀ j, j < k → l.getD j [] ≠ [])) (fun _ i => pN n - (intOf i).toNat)
                  case atStart => exact ⟨0, Nat.zero_le _, rfl, rfl, Lib.hid (fun j hj => absurd hj (by omega))⟩
                  case round =>
                    obtain ⟨k, hk, rfl, rfl, hz⟩ := hrel
                    by_cases hlt : k < pN n
                    · have d1 : decide (k < pN n) = true := decide_eq_true hlt
                      have y1 := HCw.out k hlt
                      have hjn := join_take (l := l) (k := k) (by rw [HL3.out]; exact hlt)
                      have hjl := HLL.out k (by rw [HL3.out]; omega)
                      have h16 := H16.out k
                      have HK := Lib.hid (fun h => full_no (l := l) (k := k) (by rw [HL3.out]; exact hlt) h)
                      have HNx := Lib.hid (fun (h : l.getD k [] ≠ []) j (hj : j < k + 1) => if e : j = k then e ▸ h else hz.out j (by omega))
                      generalize l.getD k [] = x at *
                      by_cases hx : x = []
                      · have e4 : (S x).toList.isEmpty = true := by rw [toL, hx]; rfl
                        have HV := Lib.hid (HVf.out (HK.out hx))
                        clear hx hjn HNx
                        go_wp2
                        go_ret3
                        exact ⟨by rw [HV.out]; rfl, r', HRo.out.1, HRo.out.2, HNw.out⟩
                      · have e4 : (S x).toList.isEmpty = false := by rw [toL, ← Bool.not_eq_true, List.isEmpty_iff]; exact hx
                        have HNy := Lib.hid (HNx.out hx)
                        have hsa := sadd (joinB (l.take k)) x (by omega)
                        rw [← hjn] at hsa
                        clear hx HNx HK hjn
                        go_wp2
                        go_round
                        case rel => exact ⟨k + 1, by omega, by go_num, rfl, HNy⟩
                        case measure => simp [intOf]; omega
                    · obtain rfl : k = pN n := by omega
                      have d1 : decide (pN n < pN n) = false := by simp
                      have htk : l.take (pN n) = l := List.take_of_length_le (by rw [HL3.out]; exact Nat.le_refl _)
                      have HV := Lib.hid (HVt.out (full_of (fun j hj => hz.out j (by rw [← HL3.out]; exact hj))))
                      have HTk := Lib.hid htk
                      clear htk
                      go_wp2
                      go_ret3
                      exact ⟨by rw [HV.out, ← HTk.out, HTk.out]; exact congrArg (fun s => Ending.returned (.tuple #[.string (S (joinB s)), .bool true, .int .i64 0])) HTk.out, r', HRo.out.1, HRo.out.2, HNw.out⟩
      · simp only [eq_false_of_ne_true hfit, Bool.not_false] at h43
        subst h43
        have hE : errB n g f = 3 := by unfold errB; rw [if_pos hk, if_neg hfit]
        have hd : doneB n g f = false := by unfold doneB; simp [hE]
        have HE := Lib.hid (show rputV n g f = .tuple #[.string ⟨#[]⟩, .bool false, .int .i64 3] ∧ putG n g f = g from by
          refine ⟨?_, by unfold putG; rw [if_neg (by omega)]⟩
          unfold rputV outB
          rw [hd, hE]
          rfl)
        clear hE hd hfit
        go_wp2
        go_ret3
        exact ⟨by rw [HE.out.1]; rfl, r, by rw [HE.out.2]; exact HQ2.out.gl, HQ2.out.only, .inl rfl⟩
  · have e1 : (f.kind != 4) = true := by simp [hk]
    have hE : errB n g f = 11 := by unfold errB; rw [if_neg hk]
    have HE := Lib.hid (show rputV n g f = .tuple #[.string ⟨#[]⟩, .bool false, .int .i64 11] ∧ putG n g f = g from by
      have hd : doneB n g f = false := by unfold doneB; simp [hE]
      refine ⟨?_, by unfold putG; rw [if_neg (by omega)]⟩
      unfold rputV outB
      rw [hd, hE]
      rfl)
    clear hE hk hl hf hn hw hg
    go_enter Try.func33, Try.ntmps33
    go_wp2
    go_ret3
    exact ⟨by rw [HE.out.1]; rfl, r, by rw [HE.out.2]; exact HP.out.gl, HP.out.only, .inl rfl⟩
end Go.Proofs.Ytbfjimbffpkkhaa.Pa
