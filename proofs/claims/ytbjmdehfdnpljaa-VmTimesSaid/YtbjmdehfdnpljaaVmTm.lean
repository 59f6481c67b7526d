/-
  A timer, a counter and a trigger, run: plain facts. No program of Go is named here. Conditions: none.
-/
import Derived.Test.YtbjmdehfdnpljaaVmWk
namespace Go.Proofs.Ytbjmdehfdnpljaa.Vm
open Go.Proofs.Ytbjmdehfdnpljaa.Il hiding Next S S_size S_app S_inj S_list
open Go.Proofs.Ytbjmdehfdnpljaa.Ic Go.Proofs.Ytbjmdehfdnpljaa.Ve
open Oct

def bB (b : Bool) : UInt8 := if b then 1 else 0
def zz (m : Nat) : Bs := List.replicate m 0
def mL (t : Nat) (w : Bool) : Bs := be t 4 ++ (0 :: 0 :: 0 :: 0 :: 0 :: bB w :: zz 54)
def rL (c : Nat) (w : Bool) : Bs := be c 4 ++ (bB w :: zz 59)
def qL (a b d : Bool) : Bs := bB a :: bB b :: bB d :: zz 61
def iL (a u : Bool) : Bs := bB a :: bB u :: zz 62
theorem be4 (t : Nat) : ∃ a b c d, be t 4 = [a, b, c, d] := by
  have h := be_length t 4
  match be t 4, h with
  | [a, b, c, d], _ => exact ⟨a, b, c, d, rfl⟩
theorem nv7 {v : Nat} (h : v < 4294967296) : nvI 7 (v : Int) = v := by
  have hw : wrapI 7 (v : Int) = v := by
    unfold wrapI
    rw [if_neg (by decide), if_neg (by decide), show leastI 7 = 0 from rfl, show manyI 7 = 4294967296 from rfl]
    omega
  unfold nvI
  rw [hw, if_neg (by omega)]
  omega
theorem be_bool (b : Bool) : be (nvI 1 (yesI b)) (szI 1) = [bB b] := by cases b <;> decide
theorem wrap_bool (b : Bool) : wrapI 1 (num [bB b] : Nat) = yesI b := by cases b <;> decide
theorem put_m {t v : Nat} (w : Bool) (h : v < 4294967296) : putL (mL t w) 0 7 (v : Int) = mL v w := by
  obtain ⟨a, b, c, d, e⟩ := be4 t
  unfold putL mL
  rw [nv7 h, e]
  rfl
theorem put_mw (t : Nat) (w u : Bool) : putL (mL t w) 9 1 (yesI u) = mL t u := by
  obtain ⟨a, b, c, d, e⟩ := be4 t
  unfold putL mL
  rw [be_bool, e]
  rfl
theorem put_r {t v : Nat} (w : Bool) (h : v < 4294967296) : putL (rL t w) 0 7 (v : Int) = rL v w := by
  obtain ⟨a, b, c, d, e⟩ := be4 t
  unfold putL rL
  rw [nv7 h, e]
  rfl
theorem put_rw (t : Nat) (w u : Bool) : putL (rL t w) 4 1 (yesI u) = rL t u := by
  obtain ⟨a, b, c, d, e⟩ := be4 t
  unfold putL rL
  rw [be_bool, e]
  rfl
theorem get_7 {t : Nat} (h : t < 4294967296) (X : Bs) : getL (be t 4 ++ X) 0 7 = t := by
  unfold getL cutL
  rw [List.drop_zero, show szI 7 = 4 from rfl, List.take_left' (be_length t 4), num_be]
  have hw : t % 256 ^ 4 = t := Nat.mod_eq_of_lt h
  rw [hw]
  unfold wrapI
  rw [if_neg (by decide), if_neg (by decide), show leastI 7 = 0 from rfl, show manyI 7 = 4294967296 from rfl]
  omega
theorem get_m {t : Nat} (w : Bool) (h : t < 4294967296) : getL (mL t w) 0 7 = t := get_7 h _
theorem get_r {t : Nat} (w : Bool) (h : t < 4294967296) : getL (rL t w) 0 7 = t := get_7 h _
theorem get_mw (t : Nat) (w : Bool) : getL (mL t w) 9 1 = yesI w := by
  obtain ⟨a, b, c, d, e⟩ := be4 t
  unfold getL cutL mL
  rw [e]
  exact wrap_bool w
theorem get_rw (t : Nat) (w : Bool) : getL (rL t w) 4 1 = yesI w := by
  obtain ⟨a, b, c, d, e⟩ := be4 t
  unfold getL cutL rL
  rw [e]
  exact wrap_bool w
theorem get_i0 (a u : Bool) : getL (iL a u) 0 1 = yesI a := wrap_bool a
theorem get_i1 (a u : Bool) : getL (iL a u) 1 1 = yesI u := wrap_bool u
theorem put_q0 (a b d v : Bool) : putL (qL a b d) 0 1 (yesI v) = qL v b d := by unfold putL qL; rw [be_bool]; rfl
theorem put_q1 (a b d v : Bool) : putL (qL a b d) 1 1 (yesI v) = qL a v d := by unfold putL qL; rw [be_bool]; rfl
theorem put_q2 (a b d v : Bool) : putL (qL a b d) 2 1 (yesI v) = qL a b v := by unfold putL qL; rw [be_bool]; rfl

def y0 : In := ⟨1, 1, 1, 0, 0⟩
def y1 (n : Int) : In := ⟨34, 0, 3, 0, n⟩
def y2 : In := ⟨3, 1, 2, 0, 0⟩
def y3 : In := ⟨1, 1, 1, 1, 0⟩
def y4 (n : Int) : In := ⟨35, 0, 4, 0, n⟩
def y5 : In := ⟨3, 1, 2, 1, 0⟩
def y7 : In := ⟨36, 0, 3, 9, 0⟩
def y8 : In := ⟨3, 1, 2, 2, 0⟩
def l9 (n : Int) : List In := [y0, y1 n, y2, y3, y4 n, y5, y3, y7, y8]
theorem yes_one (b : Bool) : (yesI b = 1) = (b = true) := by cases b <;> decide
theorem yes_zero (b : Bool) : (yesI b = 0) = (b = false) := by cases b <;> decide

def tN (a : Bool) (t p n : Nat) : Nat := if a then min (t + p) n else 0
def cN (u w : Bool) (c n : Nat) : Nat := if u && !w then min (c + 1) n else c
section
variable {n p t c : Nat} {I : Bs} {a u x y z w v : Bool} {op : List Bk} {k : Int} {zz' : Nat}
theorem d_ld (s : St) : doI p y0 s = ⟨s.A, 1, getL (arL s.A 1) 0 1, s.op, s.z⟩ := rfl
theorem d_ld1 (s : St) : doI p y3 s = ⟨s.A, 1, getL (arL s.A 1) 1 1, s.op, s.z⟩ := rfl
theorem d_ton (s : St) : doI p (y1 n) s = tonI p (y1 n) s := rfl
theorem d_ctu (s : St) : doI p (y4 n) s = ctuI (y4 n) s := rfl
theorem d_trig (s : St) : doI p y7 s = trigI y7 s := rfl
theorem d_st0 (s : St) : doI p y2 s = ⟨ptA s.A 2 0 1 s.v, s.kd, s.v, s.op, s.z⟩ := rfl
theorem d_st1 (s : St) : doI p y5 s = ⟨ptA s.A 2 1 1 s.v, s.kd, s.v, s.op, s.z⟩ := rfl
theorem d_st2 (s : St) : doI p y8 s = ⟨ptA s.A 2 2 1 s.v, s.kd, s.v, s.op, s.z⟩ := rfl
theorem fin9 (A : List Bs) : (finM (l9 n) p A).s = doI p y8 (doI p y7 (doI p y3 (doI p y5 (doI p (y4 n) (doI p y3 (doI p y2 (doI p (y1 n) (doI p y0 (st0 A))))))))) := rfl
theorem s_ld {Q M R : Bs} {k v' : Int} : doI p y0 ⟨[iL a u, Q, M, R], k, v', op, zz'⟩ = ⟨[iL a u, Q, M, R], 1, yesI a, op, zz'⟩ := by
  rw [d_ld]
  show St.mk _ 1 (getL (iL a u) 0 1) op zz' = _
  rw [get_i0]
theorem s_ld1 {Q M R : Bs} {k v' : Int} : doI p y3 ⟨[iL a u, Q, M, R], k, v', op, zz'⟩ = ⟨[iL a u, Q, M, R], 1, yesI u, op, zz'⟩ := by
  rw [d_ld1]
  show St.mk _ 1 (getL (iL a u) 1 1) op zz' = _
  rw [get_i1]
theorem t_eq (hn : 1 ≤ n) : decide (((tN a t p n : Nat) : Int) = (n : Int)) = (a && decide (tN a t p n = n)) := by
  cases a
  · unfold tN
    rw [Bool.false_and, decide_eq_false]
    simp
    omega
  · rw [Bool.true_and]
    rw [decide_eq_decide]
    omega
theorem s_ton (hn : 1 ≤ n) (hn2 : n ≤ 500) (ht : t ≤ n) {Q R : Bs} : doI p (y1 n) ⟨[I, Q, mL t w, R], 1, yesI a, op, zz'⟩ = ⟨[I, Q, mL (tN a t p n) w, R], 1, yesI (a && decide (tN a t p n = n)), op, zz'⟩ := by
  have hg : gtV ⟨[I, Q, mL t w, R], 1, yesI a, op, zz'⟩ 3 0 7 = (t : Int) := get_m w (by omega)
  have hN : tonN p (y1 n) ⟨[I, Q, mL t w, R], 1, yesI a, op, zz'⟩ = ((tN a t p n : Nat) : Int) := by
    unfold tonN tN
    show (if yesI a = 1 then min (gtV ⟨[I, Q, mL t w, R], 1, yesI a, op, zz'⟩ 3 0 7 + (p : Int)) (n : Int) else 0) = _
    rw [hg]
    cases a
    · rfl
    · rw [if_pos (show yesI true = 1 from rfl), if_pos rfl]; omega
  have hlt : tN a t p n < 4294967296 := by unfold tN; split <;> omega
  rw [d_ton]
  unfold tonI
  rw [hN]
  show St.mk [I, Q, putL (mL t w) 0 7 ((tN a t p n : Nat) : Int), R] 1 (yesI (decide (((tN a t p n : Nat) : Int) = (n : Int)))) op zz' = _
  rw [put_m w hlt, t_eq hn]
theorem s_st0 {M R : Bs} {k : Int} : doI p y2 ⟨[I, qL x y z, M, R], k, yesI v, op, zz'⟩ = ⟨[I, qL v y z, M, R], k, yesI v, op, zz'⟩ := by
  rw [d_st0]
  show St.mk [I, putL (qL x y z) 0 1 (yesI v), M, R] k (yesI v) op zz' = _
  rw [put_q0]
theorem s_st1 {M R : Bs} {k : Int} : doI p y5 ⟨[I, qL x y z, M, R], k, yesI v, op, zz'⟩ = ⟨[I, qL x v z, M, R], k, yesI v, op, zz'⟩ := by
  rw [d_st1]
  show St.mk [I, putL (qL x y z) 1 1 (yesI v), M, R] k (yesI v) op zz' = _
  rw [put_q1]
theorem s_st2 {M R : Bs} {k : Int} : doI p y8 ⟨[I, qL x y z, M, R], k, yesI v, op, zz'⟩ = ⟨[I, qL x y v, M, R], k, yesI v, op, zz'⟩ := by
  rw [d_st2]
  show St.mk [I, putL (qL x y z) 2 1 (yesI v), M, R] k (yesI v) op zz' = _
  rw [put_q2]
theorem up_eq (u w : Bool) : decide (yesI u = 1 ∧ yesI w = 0) = (u && !w) := by cases u <;> cases w <;> decide
theorem s_ctu (hn2 : n ≤ 500) (hc : c ≤ n) {Q M : Bs} : doI p (y4 n) ⟨[I, Q, M, rL c v], 1, yesI u, op, zz'⟩ = ⟨[I, Q, M, rL (cN u v c n) u], 1, yesI (decide (n ≤ cN u v c n)), op, zz'⟩ := by
  have hg : gtV ⟨[I, Q, M, rL c v], 1, yesI u, op, zz'⟩ 4 0 7 = (c : Int) := get_r v (by omega)
  have hU : upI (y4 n) ⟨[I, Q, M, rL c v], 1, yesI u, op, zz'⟩ 4 = (u && !v) := by
    unfold upI
    show decide (yesI u = 1 ∧ getL (rL c v) 4 1 = 0) = _
    rw [get_rw, up_eq]
  have hN : ctuN (y4 n) ⟨[I, Q, M, rL c v], 1, yesI u, op, zz'⟩ = ((cN u v c n : Nat) : Int) := by
    unfold ctuN cN
    show (if upI (y4 n) ⟨[I, Q, M, rL c v], 1, yesI u, op, zz'⟩ 4 = true then min (gtV ⟨[I, Q, M, rL c v], 1, yesI u, op, zz'⟩ 4 0 7 + 1) (n : Int) else gtV ⟨[I, Q, M, rL c v], 1, yesI u, op, zz'⟩ 4 0 7) = _
    rw [hU, hg]
    split <;> omega
  have hA : ctuA (y4 n) ⟨[I, Q, M, rL c v], 1, yesI u, op, zz'⟩ = [I, Q, M, rL (cN u v c n) u] := by
    unfold ctuA
    rw [hN]
    show (if upI (y4 n) ⟨[I, Q, M, rL c v], 1, yesI u, op, zz'⟩ 4 = true then [I, Q, M, putL (putL (rL c v) 4 1 (yesI u)) 0 7 ((cN u v c n : Nat) : Int)] else [I, Q, M, putL (rL c v) 4 1 (yesI u)]) = _
    rw [hU, put_rw]
    by_cases h : (u && !v) = true
    · rw [if_pos h, put_r u (by unfold cN; split <;> omega)]
    · rw [if_neg h]
      unfold cN
      rw [if_neg h]
  rw [d_ctu]
  unfold ctuI
  rw [hN, hA]
  show St.mk _ 1 (yesI (decide ((n : Int) ≤ ((cN u v c n : Nat) : Int)))) op zz' = _
  rw [show decide ((n : Int) ≤ ((cN u v c n : Nat) : Int)) = decide (n ≤ cN u v c n) by rw [decide_eq_decide]; omega]
theorem s_trig {Q R : Bs} : doI p y7 ⟨[I, Q, mL t w, R], 1, yesI u, op, zz'⟩ = ⟨[I, Q, mL t u, R], 1, yesI (u && !w), op, zz'⟩ := by
  have hU : upI y7 ⟨[I, Q, mL t w, R], 1, yesI u, op, zz'⟩ 9 = (u && !w) := by
    unfold upI
    show decide (yesI u = 1 ∧ getL (mL t w) 9 1 = 0) = _
    rw [get_mw, up_eq]
  rw [d_trig]
  unfold trigI
  show St.mk [I, Q, putL (mL t w) 9 1 (yesI u), R] 1 (yesI (upI y7 ⟨[I, Q, mL t w, R], 1, yesI u, op, zz'⟩ 9)) op zz' = _
  rw [hU, put_mw]
/-- All nine, from one run to the next. -/
theorem nine (hn : 1 ≤ n) (hn2 : n ≤ 500) (ht : t ≤ n) (hc : c ≤ n) :
    (finM (l9 n) p [iL a u, qL x y z, mL t w, rL c v]).s.A = [iL a u, qL (a && decide (tN a t p n = n)) (decide (n ≤ cN u v c n)) (u && !w), mL (tN a t p n) u, rL (cN u v c n) u] := by
  rw [fin9]
  unfold st0
  rw [s_ld, s_ton hn hn2 ht, s_st0, s_ld1, s_ctu hn2 hc, s_st1, s_ld1, s_trig, s_st2]
theorem chk9 : ∀ n : Fin 500, (chkB (l9 ((n.val : Nat) + 1 : Nat))).1 = 0 := by decide +kernel
theorem all9 (hn : 1 ≤ n) (hn2 : n ≤ 500) : (chkB (l9 n)).1 = 0 ∧ ∃ l, allB (l9 n) = .ok l := by
  have h0 := chk9 ⟨n - 1, by omega⟩
  dsimp only at h0
  rw [show n - 1 + 1 = n by omega] at h0
  refine ⟨h0, ?_⟩
  rcases all_cases (l9 n) with ⟨r, k, h, hr, hr2, hk2⟩ | ⟨s, h, _⟩
  · rw [chk_err h] at h0
    have h2 : r = 0 := h0
    omega
  · exact ⟨_, h⟩
theorem fit_i (a u : Bool) : fitL [bB a, bB u] = iL a u := rfl
theorem fit_no : fitL [] = iL false false := rfl
theorem q_len (a b d : Bool) : (qL a b d).length = 64 := rfl
theorem m_len (t : Nat) (w : Bool) : (mL t w).length = 64 := by unfold mL; rw [List.length_append, be_length]; rfl
theorem r_len (t : Nat) (w : Bool) : (rL t w).length = 64 := by unfold rL; rw [List.length_append, be_length]; rfl
theorem fit_id {l : Bs} (h : l.length = 64) : fitL l = l := by
  unfold fitL
  rw [List.take_of_length_le (by omega), h]
  simp
theorem z_q : z64 = qL false false false := rfl
theorem z_m : z64 = mL 0 false := by decide +kernel
theorem z_r : z64 = rL 0 false := by decide +kernel
end
end Go.Proofs.Ytbjmdehfdnpljaa.Vm
