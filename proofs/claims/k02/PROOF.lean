import PyProof.Rows.All
import Wide.All
import OpenK.AllK
import Wide.FinOn
import HandS.ForMost
import HandS.ForExc
import HandS.IsInst
import HandS.Gcd
import HandS.Defaults
import HandS.Wide
import HandS.WideBits
import HandS.ExcIs
import HandS.Small
import HandS.Flow
import PySem.Challenge.RW_papersat_k02_ratio_arithmetic
set_option Elab.async false
set_option linter.all false
set_option maxRecDepth 100000
set_option maxHeartbeats 4000000
/-! ### short words for readings -/
namespace Z
open PySem PySem.Spec PyProof.Rows L2
variable {σ σ' : L2.St} {H : Hp} {Q : VK} {D : Ends} {ta tb te : TE} {t u : TS} {tt tu : TT} {g : TG} {v x y : V} {i : Nat} {K : PySem.W.Frag} {p : Addr}
theorem w_var (h : σ[i]? = some (some v)) (q : Q v H) : tVar i σ H Q := ⟨v, h, q⟩
theorem w_c (q : Q v H) : tC v σ H Q := q
theorem w_op {r : R2} (h : ta σ H fun x H1 => tb σ H1 fun y H2 => r x y H2 Q) : tOp r ta tb σ H Q := h
theorem w_un {r : V → Hp → VK → Prop} (h : ta σ H fun x H1 => r x H1 Q) : tUn r ta σ H Q := h
theorem w_rI0 {f : Int → Int → V} {a b : Int} (q : Q (f a b) H) : rI0 f (.int a) (.int b) H Q := ⟨a, b, rfl, rfl, q⟩
theorem w_rI {C : Int → Int → Prop} {f : Int → Int → V} {a b : Int} (c : C a b) (q : Q (f a b) H) : rI C f (.int a) (.int b) H Q := ⟨a, b, rfl, rfl, c, q⟩
theorem w_rU {f : Int → V} {a : Int} (q : Q (f a) H) : rU f (.int a) H Q := ⟨a, rfl, q⟩
theorem w_rEq (c : scal x y = true) (q : Q (.bl (decide (x = y))) H) : rEq x y H Q := ⟨c, q⟩
theorem w_rNe (c : scal x y = true) (q : Q (.bl (!decide (x = y))) H) : rNe x y H Q := ⟨c, q⟩
theorem w_rEqI {a b : Int} (q : Q (.bl (decide (a = b))) H) : rEq (.int a) (.int b) H Q := ⟨rfl, by
  rw [show decide (V.int a = V.int b) = decide (a = b) by simp]; exact q⟩
theorem w_rNeI {a b : Int} (q : Q (.bl (!decide (a = b))) H) : rNe (.int a) (.int b) H Q := ⟨rfl, by
  rw [show decide (V.int a = V.int b) = decide (a = b) by simp]; exact q⟩
theorem w_ixL {xs : List V} {k : Int} (h : SqL K H p xs) (a : atI xs k = some v) (q : Q v H) : rIxL K (.ref p) (.int k) H Q := ⟨p, xs, k, v, rfl, rfl, h, a, q⟩
theorem w_ixT {xs : List V} {k : Int} (h : SqT K H p xs) (a : atI xs k = some v) (q : Q v H) : rIxT K (.ref p) (.int k) H Q := ⟨p, xs, k, v, rfl, rfl, h, a, q⟩
theorem w_start (e : σ = σ') (h : t D σ' H) : t D σ H := by rw [e]; exact h
theorem w_seq (h : t { D with nx := u D } σ H) : tSeq t u D σ H := h
theorem w_next (h : D.nx σ H) : tNext D σ H := h
theorem w_break (h : D.bk σ H) : tBreak D σ H := h
theorem w_cont (h : D.ct σ H) : tCont D σ H := h
theorem w_drop (h : te σ H fun _ H1 => D.nx σ H1) : tDrop te D σ H := h
theorem w_ret (h : te σ H D.rt) : tRet te D σ H := h
theorem w_asg (h : te σ H fun x H1 => g x σ H1 D.nx) : tAsg te g D σ H := h
theorem w_gname {R : L2.St → Hp → Prop} (e : σ.set i (some v) = σ') (h : R σ' H) : gName i v σ H R := by rw [← e] at h; exact h
theorem w_ifs (h : tt σ H fun b H1 => if b = true then t D σ H1 else u D σ H1) : tIfS tt t u D σ H := h
theorem w_test {R : Bool → Hp → Prop} (h : te σ H fun x H1 => ∃ k, x = .bl k ∧ R k H1) : tTest te σ H R := h
theorem w_B {R : Bool → Hp → Prop} (h : te σ H fun x H1 => ∃ k, x = .bl k ∧ R k H1) : tB te σ H R := h
theorem w_bl {k : Bool} {R : Bool → Prop} (h : R k) : ∃ c, V.bl k = V.bl c ∧ R c := ⟨k, rfl, h⟩
theorem w_tand {R : Bool → Hp → Prop} (h : tt σ H fun c H1 => if c = true then tu σ H1 R else R false H1) : tAnd tt tu σ H R := h
theorem w_tor {R : Bool → Hp → Prop} (h : tt σ H fun c H1 => if c = true then R true H1 else tu σ H1 R) : tOr tt tu σ H R := h
theorem w_tnot {R : Bool → Hp → Prop} (h : tt σ H fun c H1 => R (!c) H1) : tNot tt σ H R := h
theorem w_andV (h : ta σ H fun x H1 => ∃ c, x = .bl c ∧ if c = true then tb σ H1 Q else Q (.bl false) H1) : tAndV ta tb σ H Q := h
theorem w_orV (h : ta σ H fun x H1 => ∃ c, x = .bl c ∧ if c = true then Q (.bl true) H1 else tb σ H1 Q) : tOrV ta tb σ H Q := h
theorem w_notV (h : ta σ H fun x H1 => ∃ c, x = .bl c ∧ Q (.bl (!c)) H1) : tNotV ta σ H Q := h
theorem w_ifV (h : tt σ H fun c H1 => if c = true then ta σ H1 Q else tb σ H1 Q) : tIf tt ta tb σ H Q := h
theorem w_nil {R : List V → Hp → Prop} (h : R [] H) : tNil σ H R := h
theorem w_cons {tr : TA} {R : List V → Hp → Prop} (h : ta σ H fun x H1 => tr σ H1 fun xs H2 => R (x :: xs) H2) : tCons ta tr σ H R := h
theorem w_cb {r : List V → Hp → VK → Prop} {tl : TA} (h : tl σ H fun vs H1 => r vs H1 Q) : tCB r tl σ H Q := h
theorem w_call {sp : Sp} {dvs : List V} {E : XK} {tl : TA} (h : tl σ H fun vs H1 => sp (vs ++ dvs) H1 Q E) : tCall sp dvs E tl σ H Q := h
theorem w_call0 {sp : Sp} {E : XK} {tl : TA} (h : tl σ H fun vs H1 => sp vs H1 Q E) : tCall sp [] E tl σ H Q := by
  unfold tCall
  simp only [List.append_nil]
  exact h
theorem w_tup {tl : TA} (h : tl σ H fun xs H1 => xs.length ≤ sizeLine ∧ ∀ p, H1 p = none → Q (.ref p) (upd H1 p (.tup xs))) : tTup tl σ H Q := h
theorem w_lst {tl : TA} (h : tl σ H fun xs H1 => xs.length ≤ sizeLine ∧ ∀ p, H1 p = none → Q (.ref p) (upd H1 p (.lst xs))) : tLst tl σ H Q := h
def par2 (a b : Nat) (vs : List V) (σ : L2.St) (H : Hp) (R : L2.St → Hp → Prop) : Prop := ∃ v w, vs = [v, w] ∧ R ((σ.set a (some v)).set b (some w)) H
theorem w_par {a b : Nat} {tl : TA} (h : tl σ H fun vs H1 => par2 a b vs σ H1 D.nx) : tPar a b tl D σ H := h
theorem w_par2 {a b : Nat} {v w : V} {R : L2.St → Hp → Prop} (e : (σ.set a (some v)).set b (some w) = σ') (h : R σ' H) : par2 a b [v, w] σ H R := ⟨v, w, rfl, by rw [e]; exact h⟩
theorem w_gtup {n : Nat} {gs : TGs} {xs : List V} {R : L2.St → Hp → Prop} (h : SqT K H p xs) (l : xs.length = n) (q : gs xs σ H R) : gTup K n gs (.ref p) σ H R := ⟨p, xs, rfl, h, l, q⟩
theorem w_gcons {gs : TGs} {vs : List V} {R : L2.St → Hp → Prop} (h : g v σ H fun σ' H' => gs vs σ' H' R) : gCons g gs (v :: vs) σ H R := ⟨v, vs, rfl, h⟩
theorem w_gnil {R : L2.St → Hp → Prop} (h : R σ H) : gNil [] σ H R := ⟨rfl, h⟩
theorem w_gsub {to ti : TE} {ts : TSet} {R : L2.St → Hp → Prop} (h : to σ H fun o H1 => ti σ H1 fun i H2 => ts o i v H2 fun H3 => R σ H3) : gSub to ti ts v σ H R := h
theorem w_setL {xs : List V} {k : Int} {j : Nat} {R : Hp → Prop} (h : H p = some (.lst xs)) (e : ixN xs.length k = some j) (q : R (upd H p (.lst (xs.set j v)))) : rSetL (.ref p) (.int k) v H R := ⟨p, xs, k, j, rfl, rfl, h, e, q⟩
theorem w_rng1 {tl : TA} {R : It → Hp → Prop} (h : tl σ H fun vs H1 => ∃ j : Int, vs = [.int j] ∧ -(2 ^ 62) ≤ j ∧ j < 2 ^ 62 ∧ R (Itr 0 j.toNat) H1) : iRng1 tl σ H R := h
theorem w_rng1' {j : Int} {R : It → Prop} (h1 : -(2 ^ 62) ≤ j) (h2 : j < 2 ^ 62) (h : R (Itr 0 j.toNat)) : ∃ k : Int, [V.int j] = [.int k] ∧ -(2 ^ 62) ≤ k ∧ k < 2 ^ 62 ∧ R (Itr 0 k.toNat) := ⟨j, rfl, h1, h2, h⟩
theorem w_for {wi : TI} {tb' : TS} (h : wi σ H fun J H1 => ∃ W : Nat → Nat → L2.St → Hp → Prop, (∃ m, W 0 m σ H1) ∧ ∀ i m σ H, W i m σ H →
  (J.stop i H ∧ D.nx σ H) ∨ (J.go i H ∧ ∃ N : L2.St → Hp → Prop, (∀ σ' H', N σ' H' → ∃ m', m' < m ∧ W (i + 1) m' σ' H') ∧ ∀ x H', J.yld i H x H' → g x σ H' fun σ2 H2 => tb' { D with nx := N, ct := N, bk := D.nx } σ2 H2)) : tFor wi g tb' D σ H := h
theorem w_bits (h : te σ H fun x H1 => ∃ i, x = .int i ∧ Q (.int (Builtin.Int.intBits i : Nat)) H1) : tBits te σ H Q := h
theorem w_ex1 {a : Int} {R : Int → Prop} (h : R a) : ∃ i, V.int a = V.int i ∧ R i := ⟨a, rfl, h⟩
theorem w_exl {xs : List V} {R : List V → Prop} (h : R xs) : ∃ ys, xs = ys ∧ R ys := ⟨xs, rfl, h⟩
theorem sz4 {n : Nat} (h : n ≤ 1000) : n ≤ sizeLine := Nat.le_trans h (by decide)
theorem w_ixH {xs : List V} {k : Int} (h : H p = some (.lst xs)) (a : atI xs k = some v) (q : Q v H) : rIxL K (.ref p) (.int k) H Q := ⟨p, xs, k, v, rfl, rfl, .inl (.inl h), a, q⟩
theorem w_ixTH {xs : List V} {k : Int} (h : H p = some (.tup xs)) (a : atI xs k = some v) (q : Q v H) : rIxT K (.ref p) (.int k) H Q := ⟨p, xs, k, v, rfl, rfl, .inl (.inl h), a, q⟩
theorem w_gtupH {n : Nat} {gs : TGs} {xs : List V} {R : L2.St → Hp → Prop} (h : H p = some (.tup xs)) (l : xs.length = n) (q : gs xs σ H R) : gTup K n gs (.ref p) σ H R := ⟨p, xs, rfl, .inl (.inl h), l, q⟩
theorem w_setLu {xs ys : List V} {k : Int} {j : Nat} {R : Hp → Prop} {H0 : Hp} (e : ixN xs.length k = some j) (e2 : xs.set j v = ys) (q : R (upd H0 p (.lst ys))) : rSetL (.ref p) (.int k) v (upd H0 p (.lst xs)) R := ⟨p, xs, k, j, rfl, rfl, upd_same, e, by rw [upd_upd, e2]; exact q⟩
theorem w_setLh {xs ys : List V} {k : Int} {j : Nat} {R : Hp → Prop} (h : H p = some (.lst xs)) (e : ixN xs.length k = some j) (e2 : xs.set j v = ys) (q : R (upd H p (.lst ys))) : rSetL (.ref p) (.int k) v H R := ⟨p, xs, k, j, rfl, rfl, h, e, by rw [e2]; exact q⟩
theorem w_lenL {xs : List V} {R : V → Prop} (h : SqL K H p xs) (q : R (.int xs.length)) : ∃ a ys, [V.ref p] = [.ref a] ∧ (SqL K H a ys ∨ SqT K H a ys) ∧ R (.int ys.length) := ⟨p, xs, rfl, .inl h, q⟩
theorem w_lenT {xs : List V} {R : V → Prop} (h : SqT K H p xs) (q : R (.int xs.length)) : ∃ a ys, [V.ref p] = [.ref a] ∧ (SqL K H a ys ∨ SqT K H a ys) ∧ R (.int ys.length) := ⟨p, xs, rfl, .inr h, q⟩
theorem upd_skip {a b : Addr} {o : HO} {u : Option HO} (h : a ≠ b) (e : H a = u) : (upd H b o) a = u := by rw [upd_ne h]; exact e
section
variable {c A B : Prop} [Decidable c]
theorem w_ite (h1 : c → A) (h2 : ¬ c → B) : if decide c = true then A else B := by
  by_cases h : c
  · rw [if_pos (decide_eq_true h)]; exact h1 h
  · rw [if_neg (fun z => h (of_decide_eq_true z))]; exact h2 h
theorem w_iteN (h1 : ¬ c → A) (h2 : c → B) : if (!decide c) = true then A else B := by
  by_cases h : c
  · rw [decide_eq_true h]; exact h2 h
  · rw [decide_eq_false h]; exact h1 h
theorem w_iteT (h : c) (q : A) : if decide c = true then A else B := by rw [if_pos (decide_eq_true h)]; exact q
theorem w_iteF (h : ¬ c) (q : B) : if decide c = true then A else B := by rw [if_neg (fun z => h (of_decide_eq_true z))]; exact q
theorem w_iteNT (h : ¬ c) (q : A) : if (!decide c) = true then A else B := by rw [decide_eq_false h]; exact q
theorem w_iteNF (h : c) (q : B) : if (!decide c) = true then A else B := by rw [decide_eq_true h]; exact q
theorem w_iteb {k : Bool} (h1 : k = true → A) (h2 : k = false → B) : if k = true then A else B := by
  cases k with
  | true => exact h1 rfl
  | false => exact h2 rfl
theorem w_ibT (q : A) : if true = true then A else B := q
theorem w_ibF (q : B) : if false = true then A else B := q
theorem w_ibNT (q : A) : if (!false) = true then A else B := q
theorem w_ibNF (q : B) : if (!true) = true then A else B := q
end
theorem upd_fresh {a b : Addr} {o : HO} (h : H a = none) (h' : H b = some o) {u : HO} (hu : upd H b u a = none) : True := trivial
theorem fresh_of {a b : Addr} {u : HO} (h : (upd H b u) a = none) : a ≠ b ∧ H a = none := by
  by_cases e : a = b
  · subst e; rw [upd_same] at h; cases h
  · rw [upd_ne e] at h; exact ⟨e, h⟩
theorem pick {ns : List Int} {k : Int} (h0 : 0 ≤ k) (h : k < ns.length) : ∃ z, atI (ns.map V.int) k = some (.int z) ∧ z ∈ ns := by
  obtain ⟨j, rfl⟩ := Int.eq_ofNat_of_zero_le h0
  have hj : j < ns.length := by omega
  refine ⟨ns[j], atI_nat (j := j) ?_, List.getElem_mem hj⟩
  rw [List.getElem?_map, List.getElem?_eq_getElem hj]
  rfl
theorem w_isi {c x : V} {ty u : Value} {b : Bool} (hc : ClsV c u) (ht : TyX K H x ty) (e : PySem.W.kitOne K ty u = some b) (q : Q (.bl b) H) : rIsi K [x, c] H Q := ⟨x, c, ty, u, b, rfl, hc, ht, e, q⟩
theorem w_isi_ii {a : Int} (q : Q (.bl true) H) : rIsi K [.int a, .ty "int"] H Q := w_isi (.ty _) (.base (.int _)) (kit_ty (by decide +kernel)) q
theorem w_isi_ib {a : Int} (q : Q (.bl false) H) : rIsi K [.int a, .ty "bool"] H Q := w_isi (.ty _) (.base (.int _)) (kit_ty (by decide +kernel)) q
theorem w_isi_bb {a : Bool} (q : Q (.bl true) H) : rIsi K [.bl a, .ty "bool"] H Q := w_isi (.ty _) (.base (.bl _)) (kit_ty (by decide +kernel)) q
theorem w_isi_bi {a : Bool} (q : Q (.bl true) H) : rIsi K [.bl a, .ty "int"] H Q := w_isi (.ty _) (.base (.bl _)) (kit_ty (by decide +kernel)) q
theorem w_isi_ss {a : Str} (q : Q (.bl true) H) : rIsi K [.str a, .ty "str"] H Q := w_isi (.ty _) (.base (.str _)) (kit_ty (by decide +kernel)) q
theorem w_isi_is {a : Int} (q : Q (.bl false) H) : rIsi K [.int a, .ty "str"] H Q := w_isi (.ty _) (.base (.int _)) (kit_ty (by decide +kernel)) q
theorem w_isi_tt {xs : List V} (h : H p = some (.tup xs)) (q : Q (.bl true) H) : rIsi K [.ref p, .ty "tuple"] H Q := w_isi (.ty _) (.base (.tup h)) (kit_ty (by decide +kernel)) q
theorem w_isi_tl {xs : List V} (h : H p = some (.tup xs)) (q : Q (.bl false) H) : rIsi K [.ref p, .ty "list"] H Q := w_isi (.ty _) (.base (.tup h)) (kit_ty (by decide +kernel)) q
theorem w_isi_ll {xs : List V} (h : H p = some (.lst xs)) (q : Q (.bl true) H) : rIsi K [.ref p, .ty "list"] H Q := w_isi (.ty _) (.base (.lst h)) (kit_ty (by decide +kernel)) q
theorem w_isi_lt {xs : List V} (h : H p = some (.lst xs)) (q : Q (.bl false) H) : rIsi K [.ref p, .ty "tuple"] H Q := w_isi (.ty _) (.base (.lst h)) (kit_ty (by decide +kernel)) q
theorem w_isi_ti {xs : List V} (h : H p = some (.tup xs)) (q : Q (.bl false) H) : rIsi K [.ref p, .ty "int"] H Q := w_isi (.ty _) (.base (.tup h)) (kit_ty (by decide +kernel)) q
theorem w_isi_tb {xs : List V} (h : H p = some (.tup xs)) (q : Q (.bl false) H) : rIsi K [.ref p, .ty "bool"] H Q := w_isi (.ty _) (.base (.tup h)) (kit_ty (by decide +kernel)) q
theorem w_isi_ts {xs : List V} (h : H p = some (.tup xs)) (q : Q (.bl false) H) : rIsi K [.ref p, .ty "str"] H Q := w_isi (.ty _) (.base (.tup h)) (kit_ty (by decide +kernel)) q
theorem w_isi_li {xs : List V} (h : H p = some (.lst xs)) (q : Q (.bl false) H) : rIsi K [.ref p, .ty "int"] H Q := w_isi (.ty _) (.base (.lst h)) (kit_ty (by decide +kernel)) q
theorem w_isi_lb {xs : List V} (h : H p = some (.lst xs)) (q : Q (.bl false) H) : rIsi K [.ref p, .ty "bool"] H Q := w_isi (.ty _) (.base (.lst h)) (kit_ty (by decide +kernel)) q
theorem w_isi_ls {xs : List V} (h : H p = some (.lst xs)) (q : Q (.bl false) H) : rIsi K [.ref p, .ty "str"] H Q := w_isi (.ty _) (.base (.lst h)) (kit_ty (by decide +kernel)) q
theorem w_gcd {a b : Int} (q : Q (.int (Nat.gcd a.natAbs b.natAbs : Nat)) H) : rGcd [.int a, .int b] H Q := ⟨a, b, rfl, q⟩
theorem w_callN {n m : Nat} {sp : Sp} {gV : List V → List V → List V} {E : XK} {t1 t2 : TA} (h : t1 σ H fun vs H1 => t2 σ H1 fun zs H2 => vs.length = n ∧ zs.length = m ∧ sp (gV vs zs) H2 Q E) : tCallN n m sp gV E t1 t2 σ H Q := h
theorem w_callS {sp : Sp} {E : L2.St → XK} {t1 : TA} (h : t1 σ H fun vs H1 => sp vs H1 Q (E σ)) : tCallS sp E t1 σ H Q := h
theorem same_of {H H' : Hp} {p : Addr} {o : HO} (s : Same H H') (n : H' p = none) : Same H (upd H' p o) := fun b x e => by
  rw [upd_ne (ne_of_none (s b x e) n)]
  exact s b x e
theorem same_mut {H H' : Hp} {p : Addr} {o : HO} (s : Same H H') (n : H p = none) : Same H (upd H' p o) := fun b x e => by
  rw [upd_ne (ne_of_none e n)]
  exact s b x e
/-- pools -/
def IsPool (o : HO) : Prop := ∃ (c k : Int) (b : Bool) (s : Int), o = .lst [.int c, .int k, .bl b, .int s]
theorem upd_of {a b : Addr} {o : HO} (h : H b = none) {u : HO} (e : H a = some u) : (upd H b o) a = some u := by rw [upd_ne (ne_of_none e h)]; exact e
end Z
local macro_rules | `(tactic| walk_at "sz") => `(tactic| first | omega | (split <;> omega) | ((repeat' split) <;> omega) | (simp only [List.length_map]; (repeat' split) <;> omega))
local macro_rules | `(tactic| walk_at "hp") => `(tactic| first
  | assumption
  | exact L2.upd_same
  | ((refine' Z.upd_of ?h1 ?h2); (case h1 => assumption); (case h2 => walk_at "hp"))
  | ((refine' Z.upd_skip ?h1 ?h2); (case h1 => first | assumption | (apply Ne.symm; assumption)); (case h2 => walk_at "hp")))
local macro_rules | `(tactic| walk_at "cond") => `(tactic| first
  | exact L2.wide_mul (a := 200) (b := 200) (by omega) (by omega) (by decide) (by decide) (by decide)
  | exact L2.wide_div (b := 200) (by omega) (by omega) (by decide) (by decide)
  | exact ⟨by omega, by omega⟩
  | omega
  | exact (show (0 : Int) < _ by omega)
  | exact Or.inl ⟨by omega, by omega⟩
  | exact Or.inr ⟨by omega, by omega⟩
  | exact ⟨by omega, by omega, by decide⟩)
local macro_rules | `(tactic| walk_at "same") => `(tactic| first
  | assumption
  | exact L2.Same.refl _
  | (refine Z.same_of ?_ (by assumption); walk_at "same")
  | (refine Z.same_mut ?_ (by assumption); walk_at "same")
  | exact L2.Same.trans (by assumption) (by walk_at "same"))
local macro_rules | `(tactic| walk_at "ar") => `(tactic| first
  | omega
  | (simp only [List.length_map, List.length_cons, List.length_nil]; omega))
local macro_rules | `(tactic| walk_at "seq") => `(tactic| first
  | assumption
  | exact Or.inl (Or.inl (by walk_at "hp")))
local macro_rules | `(tactic| walk_at "w1") => `(tactic| first
  | with_reducible refine Z.w_seq ?_
  | with_reducible refine Z.w_asg ?_
  | with_reducible refine Z.w_op ?_
  | ((with_reducible refine' Z.w_var ?wv ?_); case wv => exact rfl)
  | with_reducible refine Z.w_c ?_
  | with_reducible refine Z.w_rI0 ?_
  | ((with_reducible refine' Z.w_gname ?we ?_); case we => (simp only [List.set_cons_zero, List.set_cons_succ] <;> rfl))
  | with_reducible refine Z.w_cons ?_
  | with_reducible refine Z.w_nil ?_
  | with_reducible refine Z.w_ifs ?_
  | with_reducible refine Z.w_test ?_
  | with_reducible refine Z.w_B ?_
  | with_reducible refine Z.w_bl ?_
  | with_reducible refine Z.w_rEqI ?_
  | with_reducible refine Z.w_rNeI ?_
  | with_reducible refine Z.w_cb ?_
  | with_reducible refine Z.w_call0 ?_
  | with_reducible refine Z.w_call ?_
  | with_reducible refine Z.w_isi_ii ?_
  | with_reducible refine Z.w_isi_ib ?_
  | with_reducible refine Z.w_isi_bb ?_
  | with_reducible refine Z.w_isi_bi ?_
  | with_reducible refine Z.w_isi_ss ?_
  | with_reducible refine Z.w_isi_is ?_
  | ((with_reducible refine' Z.w_isi_tt ?wh ?_); (case wh => walk_at "hp"))
  | ((with_reducible refine' Z.w_isi_tl ?wh ?_); (case wh => walk_at "hp"))
  | ((with_reducible refine' Z.w_isi_ll ?wh ?_); (case wh => walk_at "hp"))
  | ((with_reducible refine' Z.w_isi_lt ?wh ?_); (case wh => walk_at "hp"))
  | ((with_reducible refine' Z.w_isi_ti ?wh ?_); (case wh => walk_at "hp"))
  | ((with_reducible refine' Z.w_isi_tb ?wh ?_); (case wh => walk_at "hp"))
  | ((with_reducible refine' Z.w_isi_ts ?wh ?_); (case wh => walk_at "hp"))
  | ((with_reducible refine' Z.w_isi_li ?wh ?_); (case wh => walk_at "hp"))
  | ((with_reducible refine' Z.w_isi_lb ?wh ?_); (case wh => walk_at "hp"))
  | ((with_reducible refine' Z.w_isi_ls ?wh ?_); (case wh => walk_at "hp"))
  | with_reducible refine Z.w_tand ?_
  | with_reducible refine Z.w_tor ?_
  | with_reducible refine Z.w_tnot ?_
  | with_reducible refine Z.w_ret ?_
  | with_reducible refine Z.w_next ?_
  | with_reducible refine Z.w_un ?_
  | with_reducible refine Z.w_rU ?_
  | with_reducible refine Z.w_tup ?_
  | with_reducible refine Z.w_lst ?_
  | with_reducible refine Z.w_par ?_
  | ((with_reducible refine' Z.w_par2 ?we ?_); case we => (simp only [List.set_cons_zero, List.set_cons_succ] <;> rfl))
  | with_reducible refine Z.w_gsub ?_
  | with_reducible refine Z.w_andV ?_
  | with_reducible refine Z.w_orV ?_
  | with_reducible refine Z.w_notV ?_
  | with_reducible refine Z.w_ifV ?_
  | with_reducible refine Z.w_drop ?_
  | with_reducible refine Z.w_break ?_
  | with_reducible refine Z.w_cont ?_
  | with_reducible refine Z.w_gcons ?_
  | with_reducible refine Z.w_gnil ?_
  | with_reducible refine Z.w_for ?_
  | with_reducible refine Z.w_rng1 ?_
  | with_reducible refine Z.w_bits ?_
  | with_reducible refine Z.w_callN ?_
  | with_reducible refine Z.w_callS ?_
  | with_reducible refine Z.w_gcd ?_
  | with_reducible refine Z.w_ex1 ?_
  | ((with_reducible refine' Z.w_ixH ?wh ?wa ?_); (case wh => walk_at "hp"); (case wa => exact rfl))
  | ((with_reducible refine' Z.w_ixTH ?wh ?wa ?_); (case wh => walk_at "hp"); (case wa => exact rfl))
  | ((with_reducible refine' Z.w_gtupH ?wh ?wa ?_); (case wh => walk_at "hp"); (case wa => exact rfl))
  | ((with_reducible refine' Z.w_setLu ?wh ?wa ?_); (case wh => exact rfl); (case wa => (simp only [Int.reduceToNat, List.set_cons_zero, List.set_cons_succ] <;> rfl)))
  | ((with_reducible refine' Z.w_setLh ?wg ?wh ?wa ?_); (case wg => walk_at "hp"); (case wh => exact rfl); (case wa => (simp only [Int.reduceToNat, List.set_cons_zero, List.set_cons_succ] <;> rfl)))
  | ((with_reducible refine Z.w_rI ?wc ?_); (case wc => walk_at "cond"))
  | with_reducible refine Or.inl ⟨_, rfl, ?_⟩
  | with_reducible refine Or.inr ⟨_, rfl, ?_⟩
  | ((with_reducible refine' ⟨_, _, rfl, Or.inl ?wh, ?_⟩); (case wh => walk_at "seq"))
  | ((with_reducible refine' ⟨_, _, rfl, Or.inr ?wh, ?_⟩); (case wh => walk_at "seq"))
  | ((with_reducible refine' Z.w_ixL ?wh ?wa ?_); (case wh => assumption); (case wa => assumption))
  | with_reducible refine ⟨_, rfl, ?_⟩
  | with_reducible refine ⟨_, _, rfl, ?_⟩
  | ((with_reducible refine ⟨?wl, fun q hq' => ?_⟩); (case wl => exact Z.sz4 (by simp)))
  | with_reducible refine Z.w_ibT ?_
  | with_reducible refine Z.w_ibF ?_
  | with_reducible refine Z.w_ibNT ?_
  | with_reducible refine Z.w_ibNF ?_
  | ((with_reducible refine Z.w_iteT ?wh ?_); (case wh => walk_at "ar"))
  | ((with_reducible refine Z.w_iteF ?wh ?_); (case wh => walk_at "ar"))
  | ((with_reducible refine Z.w_iteNT ?wh ?_); (case wh => walk_at "ar"))
  | ((with_reducible refine Z.w_iteNF ?wh ?_); (case wh => walk_at "ar")))
local macro_rules | `(tactic| walk_at "wi") => `(tactic| first
  | with_reducible refine Z.w_ite (fun hc => ?_) (fun hc => ?_)
  | with_reducible refine Z.w_iteN (fun hc => ?_) (fun hc => ?_)
  | with_reducible refine Z.w_iteb (fun hc => ?_) (fun hc => ?_))
local macro_rules | `(tactic| walk_at "w") => `(tactic| repeat' walk_at "w1")
namespace X0
open PySem PySem.Spec PyProof.Rows L2
section
variable {X : Cx} {B newId initId : String} {C : Addr} {bmB : List Value}
/-- X(), X an own exception class without own __init__ -/
theorem pmk_own0 {x : Str} {p pos : Pos} (F : ExcBaseFacts B newId initId bmB) (q : PySem.W.excIn X.K C bmB newId = true) (gC : X.mg x = some (.ref C)) (kC : PySem.W.keepIn X.K (.ref C) = true) (r : Raises X (.ref C)) (hg : Gl X x)
    (hdb : (x == ("__debug__" : Str)) = false := by decide) : PMk X (.Call (.Name x p) [] [] pos) (fun _ H Q => Q (.ref C) none H) := by
  intro pins s σ H Q I h
  refine wpAny_Call_Name_kw (ld_glob I hg gC ?_ hdb)
  refine PySem.W.callWith_K0 I.kIn kC ?_
  obtain ⟨bm, N, nm, qn, bs, hdct, sn, sub, ab, col, dd, k0, k1, k2, k3, k5, mN, hC, hN, hni, T⟩ := exc_obj I.kIn q
  refine wpAny_call_exc_subT F T hC hN hni (fun h' e hm => ?_) (Nat.zero_le _)
  exact mk_of I hm r h (I.hok.gone hm.new)
end
section
variable {K : PySem.W.Frag} {x qual : Str} {params : Arguments} {body : List Stmt} {scope : Scope} {dvs : List V} {f : Addr} {fd : FuncData} {ps : List Str}
/-- f(e, .., k = v, ..), no keyword-only parameters -/
theorem kbinds1 (F : FunD K x qual params body scope dvs [] f fd) (n : Nat) (ks : List Str) (g : {α : Type} → List α → List α → List α → List α) (hd : dvs ≠ [])
    (hrel : ∀ {vs ds zs : List V} {us its ws : List Value}, Vals vs us → Vals ds its → Vals zs ws → Vals (g vs ds zs) (g us its ws))
    (h : ∀ (T : Addr) (kV doc pm : Value) (an : Option Addr) (cdv ct : Value) (us its ws : List Value), us.length = n → its.length = dvs.length → ws.length = ks.length →
      ∃ k, bindArgs (PySem.W.fnOf x qual params body scope (.ref T) kV doc pm an cdv ct) ⟨us, ks.zip ws⟩ = seqItems? (.ref T) >>= k ∧ k (some its.toArray) = pure (ps.zip (g us its ws))) :
    ∃ its : List Value, KBn K fd ps n ks (fun us ws => g us its ws) (fun vs zs => g vs dvs zs) := by
  obtain ⟨oc, od, dV, kV, doc, pm, an, cdv, ct, osl, rfl, lk, hcd, hD, hK⟩ := F.ex
  rcases hD with ⟨e, _⟩ | ⟨_, T, o, its, m, rfl, lT, oT, rT⟩
  · exact absurd e hd
  · refine ⟨its, ⟨fun s us ws X l1 l2 => ?_, fun r1 r2 => hrel r1 rT r2⟩⟩
    obtain ⟨k, e1, e2⟩ := h T kV doc pm an cdv ct us its ws l1 rT.length.symm l2
    refine BindsTo.of_looks fun M => ?_
    rw [e1]
    exact looks_items X lT oT (.of_pure e2)
/-- two sets of answers: positional, all or the first ones -/
theorem binds1' (F : FunD K x qual params body scope dvs [] f fd) (n j : Nat) (hd : dvs ≠ []) (hn : n + (dvs.length - j) = ps.length)
    (h : ∀ (T : Addr) (kV doc pm : Value) (an : Option Addr) (cdv ct : Value) (us its : List Value), us.length = n → its.length = dvs.length →
      ∃ k, bindArgs (PySem.W.fnOf x qual params body scope (.ref T) kV doc pm an cdv ct) ⟨us, []⟩ = seqItems? (.ref T) >>= k ∧ k (some its.toArray) = pure (ps.zip (us ++ its.drop j))) : ∃ ds, Vals (dvs.drop j) ds ∧ Binds K fd ps ds := F.binds1 n j hd hn h
end
/-- isinstance(e, c) and isinstance(e, (c1, ..)), e the exception that the suite holds; its class is told in the reading -/
def rIsE1 (K : PySem.W.Frag) (a : Addr) (cls : Value) (d : Option Addr) : List V → Hp → VK → Prop := fun xs H Q => ∃ (D : Addr) (c : V) (cv : Value) (b : Bool), cls = .ref D ∧ d = none ∧ ExcC K D ∧ xs = [.ref a, c] ∧ ClsV c cv ∧ PySem.W.kitOne K (.ref D) cv = some b ∧ Q (.bl b) H
def rIsET (K : PySem.W.Frag) (a : Addr) (cls : Value) (d : Option Addr) : List V → Hp → VK → Prop := fun xs H Q => ∃ (D tp : Addr) (cs : List V) (us : List Value) (b : Bool), cls = .ref D ∧ d = none ∧ ExcC K D ∧ xs = [.ref a, .ref tp] ∧ H tp = some (.tup cs) ∧ Paired ClsV cs us ∧ PySem.W.kitAny K (.ref D) us = some b ∧ Q (.bl b) H
theorem inst_at {h : Heap} {a D : Addr} {oe : Obj} (hz : Zc (.ref D) none oe) (hf : ∃ vs, oe.data = .fields vs) (hget : h.get? a = some oe) : PySem.W.InstAt h a oe D none := by
  obtain ⟨vs, hv⟩ := hf
  obtain ⟨oc, od, oda, osl⟩ := oe
  obtain ⟨h1, h2⟩ := hz
  dsimp only at h1 h2 hv
  subst h1 h2 hv
  exact ⟨hget, rfl, rfl, trivial⟩
theorem call_isE1 {X : Cx} {a : Addr} {cls : Value} {d : Option Addr} {oe : Obj} {pn : List (Addr × Obj)} (hz : Zc cls d oe) (hf : ∃ vs, oe.data = .fields vs) : CallR (X.suite a ((a, oe) :: pn)) (.builtin "isinstance") (rIsE1 X.K a cls d) := by
  intro pins s σ H xs us Q I r h
  obtain ⟨D, c, cv, b, rfl, rfl, C, rfl, k, e, q⟩ := h
  obtain ⟨u1, u2, rfl, r1, r2⟩ := vals2 r
  cases (show u1 = Value.ref a from r1)
  have e2 := k.eq r2
  subst e2
  obtain ⟨hget, _⟩ := I.pin (a, oe) (List.mem_append.mpr (.inl List.mem_cons_self))
  exact PySem.W.kia_one (PySem.W.handS_kitx_exc C.hg C.hk C.hs C.hd C.ha C.hn C.ht C.hm) I.kIn (inst_at hz hf hget) e (fun z => nomatch z) fun tk => ⟨.bl b, H, I.kept (t' := tk) fun _ _ z => z, rfl, q⟩
theorem call_isET {X : Cx} {a : Addr} {cls : Value} {d : Option Addr} {oe : Obj} {pn : List (Addr × Obj)} (hz : Zc cls d oe) (hf : ∃ vs, oe.data = .fields vs) : CallR (X.suite a ((a, oe) :: pn)) (.builtin "isinstance") (rIsET X.K a cls d) := by
  intro pins s σ H xs us Q I r h
  obtain ⟨D, tp, cs, ws, b, rfl, rfl, C, rfl, hT, k, e, q⟩ := h
  obtain ⟨u1, u2, rfl, r1, r2⟩ := vals2 r
  cases (show u1 = Value.ref a from r1)
  cases (show u2 = Value.ref tp from r2)
  obtain ⟨hget, _⟩ := I.pin (a, oe) (List.mem_append.mpr (.inl List.mem_cons_self))
  obtain ⟨_, its, rv, o, h1, h2, n, h3⟩ := (show ObjOk X.prog X.w H s.heap tp (.tup cs) from I.hok tp _ hT)
  have e3 := ClsV.all k rv
  subst e3
  have J := inst_at hz hf hget
  obtain ⟨oc, od, dt, sl⟩ := o
  simp only at h2 h3
  subst h2 h3
  exact PySem.W.kia_tup (PySem.W.handS_kitx_exc C.hg C.hk C.hs C.hd C.ha C.hn C.ht C.hm) I.kIn J h1 e (fun z => nomatch z) fun tk => ⟨.bl b, H, I.kept (t' := tk) fun _ _ z => z, rfl, q⟩
theorem w_isE1 {K : PySem.W.Frag} {a D : Addr} {c : V} {cv : Value} {b : Bool} {H : Hp} {Q : VK} (C : ExcC K D) (k : ClsV c cv) (e : PySem.W.kitOne K (.ref D) cv = some b) (q : Q (.bl b) H) : rIsE1 K a (.ref D) none [.ref a, c] H Q := ⟨D, c, cv, b, rfl, rfl, C, rfl, k, e, q⟩
theorem w_isET {K : PySem.W.Frag} {a D tp : Addr} {cs : List V} {us : List Value} {b : Bool} {H : Hp} {Q : VK} (C : ExcC K D) (hT : H tp = some (.tup cs)) (k : Paired ClsV cs us) (e : PySem.W.kitAny K (.ref D) us = some b) (q : Q (.bl b) H) : rIsET K a (.ref D) none [.ref a, .ref tp] H Q := ⟨D, tp, cs, us, b, rfl, rfl, C, rfl, hT, k, e, q⟩
end X0

namespace L
open PySem PySem.Spec PyProof.Rows L2 Z
abbrev D_ratio : List V := [.int 1]
def topS (i : Nat) : Stmt := PySem.Challenge.pw_papersat_k02_ratio_arithmetic.main.body.getD i (.Pass ⟨0, 0, 0, 0⟩)
abbrev s_ratio : Stmt := topS 15
abbrev N_ratio : List Str := ["p", "q", "common"]
theorem sc_ratio : FnScope N_ratio ["p", "q"] (defScope s_ratio) := ⟨rfl, rfl, rfl, by decide +kernel, rfl, by decide +kernel, by decide +kernel⟩
abbrev s_plus : Stmt := topS 16
abbrev N_plus : List Str := ["a", "b"]
theorem sc_plus : FnScope N_plus ["a", "b"] (defScope s_plus) := ⟨rfl, rfl, rfl, by decide +kernel, rfl, by decide +kernel, by decide +kernel⟩
abbrev s_minus : Stmt := topS 17
abbrev N_minus : List Str := ["a", "b"]
theorem sc_minus : FnScope N_minus ["a", "b"] (defScope s_minus) := ⟨rfl, rfl, rfl, by decide +kernel, rfl, by decide +kernel, by decide +kernel⟩
abbrev s_times : Stmt := topS 18
abbrev N_times : List Str := ["a", "b"]
theorem sc_times : FnScope N_times ["a", "b"] (defScope s_times) := ⟨rfl, rfl, rfl, by decide +kernel, rfl, by decide +kernel, by decide +kernel⟩
abbrev s_over : Stmt := topS 19
abbrev N_over : List Str := ["a", "b"]
theorem sc_over : FnScope N_over ["a", "b"] (defScope s_over) := ⟨rfl, rfl, rfl, by decide +kernel, rfl, by decide +kernel, by decide +kernel⟩
abbrev s_opposite : Stmt := topS 20
abbrev N_opposite : List Str := ["a"]
theorem sc_opposite : FnScope N_opposite ["a"] (defScope s_opposite) := ⟨rfl, rfl, rfl, by decide +kernel, rfl, by decide +kernel, by decide +kernel⟩
abbrev s_compare : Stmt := topS 21
abbrev N_compare : List Str := ["a", "b", "left", "right"]
theorem sc_compare : FnScope N_compare ["a", "b"] (defScope s_compare) := ⟨rfl, rfl, rfl, by decide +kernel, rfl, by decide +kernel, by decide +kernel⟩
abbrev s_pool : Stmt := topS 23
abbrev N_pool : List Str := ["_law_script", "_law_k", "_law_cell", "_law_spare"]
theorem sc_pool : FnScope N_pool ["_law_script", "_law_k"] (defScope s_pool) := ⟨rfl, rfl, rfl, by decide +kernel, rfl, by decide +kernel, by decide +kernel⟩
abbrev s_take : Stmt := topS 24
abbrev N_take : List Str := ["_law_pool_here", "_law_size", "_law_k", "_law_cell", "_law_mixed"]
theorem sc_take : FnScope N_take ["_law_pool_here", "_law_size"] (defScope s_take) := ⟨rfl, rfl, rfl, by decide +kernel, rfl, by decide +kernel, by decide +kernel⟩
abbrev s_whole : Stmt := topS 25
abbrev N_whole : List Str := ["_law_value"]
theorem sc_whole : FnScope N_whole ["_law_value"] (defScope s_whole) := ⟨rfl, rfl, rfl, by decide +kernel, rfl, by decide +kernel, by decide +kernel⟩
abbrev s_sized : Stmt := topS 26
abbrev N_sized : List Str := ["_law_pool_here", "_law_pieces", "_law_size", "_law_total", "_law_k"]
theorem sc_sized : FnScope N_sized ["_law_pool_here", "_law_pieces"] (defScope s_sized) := ⟨rfl, rfl, rfl, by decide +kernel, rfl, by decide +kernel, by decide +kernel⟩
abbrev s_lowest : Stmt := topS 27
abbrev N_lowest : List Str := ["_law_p", "_law_q", "_law_a", "_law_b", "_law_k"]
theorem sc_lowest : FnScope N_lowest ["_law_p", "_law_q"] (defScope s_lowest) := ⟨rfl, rfl, rfl, by decide +kernel, rfl, by decide +kernel, by decide +kernel⟩
abbrev s_Lratio : Stmt := topS 28
abbrev N_Lratio : List Str := ["_law_pool_here", "_law_pieces", "_law_top"]
theorem sc_Lratio : FnScope N_Lratio ["_law_pool_here", "_law_pieces"] (defScope s_Lratio) := ⟨rfl, rfl, rfl, by decide +kernel, rfl, by decide +kernel, by decide +kernel⟩
abbrev s_second : Stmt := topS 29
abbrev N_second : List Str := ["_law_pool_here", "_law_way", "_law_a", "_law_factor"]
theorem sc_second : FnScope N_second ["_law_pool_here", "_law_way", "_law_a"] (defScope s_second) := ⟨rfl, rfl, rfl, by decide +kernel, rfl, by decide +kernel, by decide +kernel⟩
abbrev s_two : Stmt := topS 30
abbrev N_two : List Str := ["_law_pool_here", "_law_way", "_law_a"]
theorem sc_two : FnScope N_two ["_law_pool_here"] (defScope s_two) := ⟨rfl, rfl, rfl, by decide +kernel, rfl, by decide +kernel, by decide +kernel⟩
abbrev s_is : Stmt := topS 31
abbrev N_is : List Str := ["_law_told", "_law_top", "_law_bottom"]
theorem sc_is : FnScope N_is ["_law_told", "_law_top", "_law_bottom"] (defScope s_is) := ⟨rfl, rfl, rfl, by decide +kernel, rfl, by decide +kernel, by decide +kernel⟩
abbrev s_order : Stmt := topS 32
abbrev N_order : List Str := ["_law_told", "_law_a", "_law_b", "_law_due"]
theorem sc_order : FnScope N_order ["_law_told", "_law_a", "_law_b"] (defScope s_order) := ⟨rfl, rfl, rfl, by decide +kernel, rfl, by decide +kernel, by decide +kernel⟩
abbrev s_refused : Stmt := topS 33
abbrev N_refused : List Str := ["_law_a", "_law_b", "_law_how", "e"]
theorem sc_refused : FnScope N_refused ["_law_a", "_law_b", "_law_how"] (defScope s_refused) := ⟨rfl, rfl, rfl, by decide +kernel, rfl, by decide +kernel, by decide +kernel⟩
abbrev s_all : Stmt := topS 34
abbrev N_all : List Str := ["_law_a", "_law_b", "_law_how"]
theorem sc_all : FnScope N_all ["_law_a", "_law_b", "_law_how"] (defScope s_all) := ⟨rfl, rfl, rfl, by decide +kernel, rfl, by decide +kernel, by decide +kernel⟩
abbrev s_law : Stmt := topS 35
abbrev N_law : List Str := ["_law_script", "_law_k", "_law_pool_here", "_law_how", "_law_a", "_law_b"]
theorem sc_law : FnScope N_law ["_law_script"] (defScope s_law) := ⟨rfl, rfl, rfl, by decide +kernel, rfl, by decide +kernel, by decide +kernel⟩
structure Txt (K : PySem.W.Frag) (mg : Str → Option Value) : Type where
  f_ratio : Addr
  fd_ratio : FuncData
  F_ratio : FunD K "ratio" "ratio" (defArgs s_ratio) (defBody s_ratio) (defScope s_ratio) D_ratio [] f_ratio fd_ratio
  g_ratio : mg "ratio" = some (.ref f_ratio)
  f_plus : Addr
  fd_plus : FuncData
  F_plus : Fun K "plus" "plus" s_plus f_plus fd_plus
  b_plus : Binds K fd_plus ["a", "b"] []
  g_plus : mg "plus" = some (.ref f_plus)
  f_minus : Addr
  fd_minus : FuncData
  F_minus : Fun K "minus" "minus" s_minus f_minus fd_minus
  b_minus : Binds K fd_minus ["a", "b"] []
  g_minus : mg "minus" = some (.ref f_minus)
  f_times : Addr
  fd_times : FuncData
  F_times : Fun K "times" "times" s_times f_times fd_times
  b_times : Binds K fd_times ["a", "b"] []
  g_times : mg "times" = some (.ref f_times)
  f_over : Addr
  fd_over : FuncData
  F_over : Fun K "over" "over" s_over f_over fd_over
  b_over : Binds K fd_over ["a", "b"] []
  g_over : mg "over" = some (.ref f_over)
  f_opposite : Addr
  fd_opposite : FuncData
  F_opposite : Fun K "opposite" "opposite" s_opposite f_opposite fd_opposite
  b_opposite : Binds K fd_opposite ["a"] []
  g_opposite : mg "opposite" = some (.ref f_opposite)
  f_compare : Addr
  fd_compare : FuncData
  F_compare : Fun K "compare" "compare" s_compare f_compare fd_compare
  b_compare : Binds K fd_compare ["a", "b"] []
  g_compare : mg "compare" = some (.ref f_compare)
  f_pool : Addr
  fd_pool : FuncData
  F_pool : Fun K "_law_pool" "_law_pool" s_pool f_pool fd_pool
  b_pool : Binds K fd_pool ["_law_script", "_law_k"] []
  g_pool : mg "_law_pool" = some (.ref f_pool)
  f_take : Addr
  fd_take : FuncData
  F_take : Fun K "_law_take" "_law_take" s_take f_take fd_take
  b_take : Binds K fd_take ["_law_pool_here", "_law_size"] []
  g_take : mg "_law_take" = some (.ref f_take)
  f_whole : Addr
  fd_whole : FuncData
  F_whole : Fun K "_law_whole" "_law_whole" s_whole f_whole fd_whole
  b_whole : Binds K fd_whole ["_law_value"] []
  g_whole : mg "_law_whole" = some (.ref f_whole)
  f_sized : Addr
  fd_sized : FuncData
  F_sized : Fun K "_law_sized" "_law_sized" s_sized f_sized fd_sized
  b_sized : Binds K fd_sized ["_law_pool_here", "_law_pieces"] []
  g_sized : mg "_law_sized" = some (.ref f_sized)
  f_lowest : Addr
  fd_lowest : FuncData
  F_lowest : Fun K "_law_lowest" "_law_lowest" s_lowest f_lowest fd_lowest
  b_lowest : Binds K fd_lowest ["_law_p", "_law_q"] []
  g_lowest : mg "_law_lowest" = some (.ref f_lowest)
  f_Lratio : Addr
  fd_Lratio : FuncData
  F_Lratio : Fun K "_law_ratio" "_law_ratio" s_Lratio f_Lratio fd_Lratio
  b_Lratio : Binds K fd_Lratio ["_law_pool_here", "_law_pieces"] []
  g_Lratio : mg "_law_ratio" = some (.ref f_Lratio)
  f_second : Addr
  fd_second : FuncData
  F_second : Fun K "_law_second" "_law_second" s_second f_second fd_second
  b_second : Binds K fd_second ["_law_pool_here", "_law_way", "_law_a"] []
  g_second : mg "_law_second" = some (.ref f_second)
  f_two : Addr
  fd_two : FuncData
  F_two : Fun K "_law_two" "_law_two" s_two f_two fd_two
  b_two : Binds K fd_two ["_law_pool_here"] []
  g_two : mg "_law_two" = some (.ref f_two)
  f_is : Addr
  fd_is : FuncData
  F_is : Fun K "_law_is" "_law_is" s_is f_is fd_is
  b_is : Binds K fd_is ["_law_told", "_law_top", "_law_bottom"] []
  g_is : mg "_law_is" = some (.ref f_is)
  f_order : Addr
  fd_order : FuncData
  F_order : Fun K "_law_order" "_law_order" s_order f_order fd_order
  b_order : Binds K fd_order ["_law_told", "_law_a", "_law_b"] []
  g_order : mg "_law_order" = some (.ref f_order)
  f_refused : Addr
  fd_refused : FuncData
  F_refused : Fun K "_law_refused" "_law_refused" s_refused f_refused fd_refused
  b_refused : Binds K fd_refused ["_law_a", "_law_b", "_law_how"] []
  g_refused : mg "_law_refused" = some (.ref f_refused)
  f_all : Addr
  fd_all : FuncData
  F_all : Fun K "_law_all" "_law_all" s_all f_all fd_all
  b_all : Binds K fd_all ["_law_a", "_law_b", "_law_how"] []
  g_all : mg "_law_all" = some (.ref f_all)
  f_law : Addr
  fd_law : FuncData
  F_law : Fun K "law" "law" s_law f_law fd_law
  b_law : Binds K fd_law ["_law_script"] []
  g_law : mg "law" = some (.ref f_law)
  m_len : mg "len" = none
  m_int : mg "int" = none
  m_abs : mg "abs" = none
  m_min : mg "min" = none
  m_max : mg "max" = none
  m_isinstance : mg "isinstance" = none
  m_range : mg "range" = none
  m_bool : mg "bool" = none
  m_tuple : mg "tuple" = none
  m_ValueError : mg "ValueError" = none
  C_BadRatio : Addr
  c_BadRatio : mg "BadRatio" = some (.ref C_BadRatio)
  C_PaperError : Addr
  c_PaperError : mg "PaperError" = some (.ref C_PaperError)
  C_BadLiteral : Addr
  c_BadLiteral : mg "BadLiteral" = some (.ref C_BadLiteral)
  C_BadModel : Addr
  c_BadModel : mg "BadModel" = some (.ref C_BadModel)
  C_BadName : Addr
  c_BadName : mg "BadName" = some (.ref C_BadName)
  C_BadNode : Addr
  c_BadNode : mg "BadNode" = some (.ref C_BadNode)
  C_BadSort : Addr
  c_BadSort : mg "BadSort" = some (.ref C_BadSort)
  C_BadText : Addr
  c_BadText : mg "BadText" = some (.ref C_BadText)
  C_NameTaken : Addr
  c_NameTaken : mg "NameTaken" = some (.ref C_NameTaken)
  C_NoAnswer : Addr
  c_NoAnswer : mg "NoAnswer" = some (.ref C_NoAnswer)
  C_NoLevel : Addr
  c_NoLevel : mg "NoLevel" = some (.ref C_NoLevel)
  C_UnknownName : Addr
  c_UnknownName : mg "UnknownName" = some (.ref C_UnknownName)
  q_BadRatio : PySem.W.excIn K C_BadRatio [.type "ValueError", .type "Exception", .type "BaseException", .type "object"] "ValueError.__new__" = true
  k_BadRatio : PySem.W.keepIn K (.ref C_BadRatio) = true
  r_BadRatio : PySem.W.subIn K (.ref C_BadRatio) (.type "BaseException") = some true
  t_BadRatio : PySem.W.typeIn K (.ref C_BadRatio) = some (.type "type")
  x_BadRatio : ExcC K C_BadRatio
  e_BadRatio_BadRatio : PySem.W.exmOne K (.ref C_BadRatio) (.ref C_BadRatio) = some true
  e_BadRatio_PaperError : PySem.W.exmOne K (.ref C_BadRatio) (.ref C_PaperError) = some true
  i_1 : PySem.W.kitAny K (.ref C_BadRatio) [.ref C_BadLiteral, .ref C_BadModel, .ref C_BadName, .ref C_BadNode, .ref C_BadSort, .ref C_BadText] = some false
  i_2 : PySem.W.kitAny K (.ref C_BadRatio) [.ref C_NameTaken, .ref C_NoAnswer, .ref C_NoLevel, .ref C_UnknownName] = some false
  i_3 : PySem.W.kitOne K (.ref C_BadRatio) (.ref C_BadRatio) = some true
  i_4 : PySem.W.kitOne K (.ref C_BadRatio) (.type "ValueError") = some true
  m_gcd : mg "gcd" = some (.builtin "math.gcd")
end L

namespace L
open PySem PySem.Spec PyProof.Rows L2 Z
section
variable {P : Program} {w : World} {K : PySem.W.Frag} {mg : Str → Option Value} {base : Heap}
def spPool (K : PySem.W.Frag) : Sp := fun vs H Q _ => ∃ (a : Addr) (ns : List Int) (k : Int), vs = [.ref a, .int k] ∧ SqL K H a (ns.map V.int) ∧ ns.length ≤ 1000 ∧ 0 ≤ k ∧ k < 2 ^ 62 ∧ ∀ q o, H q = none → IsPool o → Q (.ref q) (upd H q o)
def spTake : Sp := fun vs H Q _ => ∃ (q : Addr) (o : HO) (n : Int), vs = [.ref q, .int n] ∧ H q = some o ∧ IsPool o ∧ 0 < n ∧ n < 1073741824 ∧ ∀ r o', 0 ≤ r → r < n → IsPool o' → Q (.int r) (upd H q o')
theorem ok_take (T : Txt K mg) : FnOk P w K mg base CX0 1 T.f_take T.fd_take ["_law_pool_here", "_law_size"] spTake := by
  refine T.F_take.ok sc_take (fun vs H Q E h => ?_) (fun cdv A outer s H vs Q E hr h => ?_)
  · obtain ⟨q, o, n, rfl, _⟩ := h
    rfl
  · obtain ⟨q, o, n, rfl, ho, ⟨c, k, b, s', rfl⟩, hn, hn2, hq⟩ := h
    refine ⟨_, (pss_cons (ps_set (i := 2) sc_take.nd rfl (.inl rfl) (pe_ix ix_list (pv 0) pe_int (fun _ _ => rfl)))
 (pss_cons (ps_asg (pe_op op_add (pv 2) pe_int) (pg_sub (pv 0) pe_int set_list))
 (pss_cons (ps_set (i := 3) sc_take.nd rfl (.inl rfl) (pe_ix ix_list (pv 0) pe_int (fun _ _ => rfl)))
 (pss_cons (ps_if (PW.pt (pw_and (pt_val (pe_ix ix_list (pv 0) pe_int (fun _ _ => rfl))) (pw_and1 (pt_cmpR op_gt (pv 3) pe_int (nomark _))))) (pss_cons (ps_asg (pe_op op_fdiv (pv 3) (pv 1)) (pg_sub (pv 0) pe_int set_list))
 (pss_one (ps_ret (pe_op op_mod (pe_callTy call_int1 (by rfl) T.m_int (by decide +kernel) (pa_cons (pv 3) pa_nil)) (pv 1))))) pss_nil)
 (pss_cons (ps_if (pt_val (pe_ix ix_list (pv 0) pe_int (fun _ _ => rfl))) (pss_one (ps_set (i := 3) sc_take.nd rfl (.inl rfl) (pe_ix ix_list (pv 0) pe_int (fun _ _ => rfl)))) pss_nil)
 (pss_cons (ps_set (i := 4) sc_take.nd rfl (.inl rfl) (pe_op op_mod (pe_callTy call_int1 (by rfl) T.m_int (by decide +kernel) (pa_cons (pe_op op_add (pe_op op_add (pv 3) (pe_op op_mul pe_int (pv 2))) pe_int) pa_nil)) pe_int))
 (pss_cons (ps_set (i := 4) sc_take.nd rfl (.inl rfl) (pe_op op_mod (pe_callTy call_int1 (by rfl) T.m_int (by decide +kernel) (pa_cons (pe_op op_mul (pv 4) (pe_op op_add (pv 4) pe_int)) pa_nil)) pe_int))
 (pss_cons (ps_set (i := 4) sc_take.nd rfl (.inl rfl) (pe_op op_mod (pe_callTy call_int1 (by rfl) T.m_int (by decide +kernel) (pa_cons (pe_op op_add (pe_op op_mul (pv 4) (pe_op op_add (pv 4) pe_int)) (pe_op op_mul pe_int (pv 2))) pa_nil)) pe_int))
 (pss_one (ps_ret (pe_op op_mod (pe_callTy call_int1 (by rfl) T.m_int (by decide +kernel) (pa_cons (pe_op op_fdiv (pv 4) pe_int) pa_nil)) (pv 1)))))))))))), ?_⟩
    refine Z.w_start (σ' := [some (.ref q), some (.int n), none, none, none]) rfl ?_
    walk_at "w"
    cases b with
    | true =>
      walk_at "w"
      walk_at "wi"
      all_goals walk_at "w"
      all_goals exact hq _ _ (Int.emod_nonneg _ (by omega)) (Int.emod_lt_of_pos _ hn) ⟨_, _, _, _, rfl⟩
    | false =>
      walk_at "w"
      all_goals exact hq _ _ (Int.emod_nonneg _ (by omega)) (Int.emod_lt_of_pos _ hn) ⟨_, _, _, _, rfl⟩
theorem ok_pool (T : Txt K mg) : FnOk P w K mg base CX0 1 T.f_pool T.fd_pool ["_law_script", "_law_k"] (spPool K) := by
  refine T.F_pool.ok sc_pool (fun vs H Q E h => ?_) (fun cdv A outer s H vs Q E hr h => ?_)
  · obtain ⟨a, ns, k, rfl, _⟩ := h
    rfl
  · obtain ⟨a, ns, k, rfl, hS, hl, hk, hk2, hq⟩ := h
    refine ⟨_, (pss_cons (ps_set (i := 2) sc_pool.nd rfl (.inl rfl) (pe_op op_add (pe_op op_mul pe_int (pv 1)) pe_int))
 (pss_cons (ps_set (i := 3) sc_pool.nd rfl (.inl rfl) (pe_op op_add (pe_op op_mul pe_int (pv 1)) pe_int))
 (pss_cons (ps_if (pt_cmpR op_lt (pv 1) (pe_callB call_len_seq (by rfl) T.m_len (by decide +kernel) (pa_cons (pv 0) pa_nil)) (nomark _)) (pss_one (ps_set (i := 2) sc_pool.nd rfl (.inl rfl) (pe_ix ix_list (pv 0) (pv 1) (fun _ _ => rfl)))) pss_nil)
 (pss_cons (ps_if (pt_cmpR op_lt (pe_op op_add (pv 1) pe_int) (pe_callB call_len_seq (by rfl) T.m_len (by decide +kernel) (pa_cons (pv 0) pa_nil)) (nomark _)) (pss_one (ps_set (i := 3) sc_pool.nd rfl (.inl rfl) (pe_ix ix_list (pv 0) (pe_op op_add (pv 1) pe_int) (fun _ _ => rfl)))) pss_nil)
 (pss_one (ps_ret (pe_lst (pa_cons (pv 2) (pa_cons pe_int (pa_cons (pe_cmpR op_ge (pv 2) (pe_op op_pow pe_int pe_int) (nomark _)) (pa_cons (pv 3) pa_nil))))))))))), ?_⟩
    refine Z.w_start (σ' := [some (.ref a), some (.int k), none, none]) rfl ?_
    by_cases h1 : k < ns.length
    · obtain ⟨z1, a1, _⟩ := pick hk h1
      by_cases h2 : k + 1 < ns.length
      · obtain ⟨z2, a2, _⟩ := pick (by omega) h2
        walk_at "w"
        exact hq _ _ (by assumption) ⟨_, _, _, _, rfl⟩
      · walk_at "w"
        exact hq _ _ (by assumption) ⟨_, _, _, _, rfl⟩
    · walk_at "w"
      exact hq _ _ (by assumption) ⟨_, _, _, _, rfl⟩
end
end L

namespace L
open PySem PySem.Spec PyProof.Rows L2 Z
section
variable {P : Program} {w : World} {K : PySem.W.Frag} {mg : Str → Option Value} {base : Heap}
def spWhole : Sp := fun vs H Q _ => ∃ i : Int, vs = [.int i] ∧ Q (.bl true) H
theorem use_whole {i : Int} {H : Hp} {Q : VK} {E : XK} (q : Q (.bl true) H) : spWhole [.int i] H Q E := ⟨i, rfl, q⟩
theorem ok_whole (T : Txt K mg) : FnOk P w K mg base CX0 1 T.f_whole T.fd_whole ["_law_value"] spWhole := by
  refine T.F_whole.ok sc_whole (fun vs H Q E h => ?_) (fun cdv A outer s H vs Q E hr h => ?_)
  · obtain ⟨i, rfl, _⟩ := h
    rfl
  · obtain ⟨i, rfl, hq⟩ := h
    refine ⟨_, (pss_one (ps_ret (pe_and (pe_callB call_isi (by rfl) T.m_isinstance (by decide +kernel) (pa_cons (pv 0) (pa_cons (pe_bltn (v := .ty "int") (by rfl) T.m_int (by decide +kernel) rfl) pa_nil))) (pe_one (pe_not (pe_callB call_isi (by rfl) T.m_isinstance (by decide +kernel) (pa_cons (pv 0) (pa_cons (pe_bltn (v := .ty "bool") (by rfl) T.m_bool (by decide +kernel) rfl) pa_nil)))))))), ?_⟩
    refine Z.w_start (σ' := [some (.int i)]) rfl ?_
    walk_at "w"
    exact hq
end
end L

namespace L
open PySem PySem.Spec PyProof.Rows L2 Z
section
variable {P : Program} {w : World} {K : PySem.W.Frag} {mg : Str → Option Value} {base : Heap}
theorem use_take {q : Addr} {o : HO} {n : Int} {H : Hp} {Q : VK} {E : XK} (h : H q = some o) (hp : IsPool o) (h1 : 0 < n) (h2 : n < 1073741824) (hq : ∀ r o', 0 ≤ r → r < n → IsPool o' → Q (.int r) (upd H q o')) : spTake [.ref q, .int n] H Q E := ⟨q, o, n, rfl, h, hp, h1, h2, hq⟩
theorem use_takeU {q : Addr} {o : HO} {n : Int} {H : Hp} {Q : VK} {E : XK} (hp : IsPool o) (h1 : 0 < n) (h2 : n < 1073741824) (hq : ∀ r o', 0 ≤ r → r < n → IsPool o' → Q (.int r) (upd H q o')) : spTake [.ref q, .int n] (upd H q o) Q E := ⟨q, o, n, rfl, upd_same, hp, h1, h2, fun r o' a b c => by rw [upd_upd]; exact hq r o' a b c⟩
end
end L
local macro_rules | `(tactic| walk_at "w1") => `(tactic| first
  | ((with_reducible refine' L.use_takeU ?wp ?wa ?wb (fun r o' h0 h1 hp => ?_)); (case wp => assumption); (case wa => omega); (case wb => omega))
  | ((with_reducible refine' L.use_take ?wh ?wp ?wa ?wb (fun r o' h0 h1 hp => ?_)); (case wh => walk_at "hp"); (case wp => assumption); (case wa => omega); (case wb => omega))
  | with_reducible refine L.use_whole ?_)
namespace L
open PySem PySem.Spec PyProof.Rows L2 Z
section
variable {P : Program} {w : World} {K : PySem.W.Frag} {mg : Str → Option Value} {base : Heap}
def spSized : Sp := fun vs H Q _ => ∃ (q : Addr) (o : HO) (n : Int), vs = [.ref q, .int n] ∧ H q = some o ∧ IsPool o ∧ 0 ≤ n ∧ n ≤ 3 ∧ ∀ r o', -(10 ^ 18 : Int) < r → r < 10 ^ 18 → IsPool o' → Q (.int r) (upd H q o')
theorem ok_sized (T : Txt K mg) : FnOk P w K mg base CX0 2 T.f_sized T.fd_sized ["_law_pool_here", "_law_pieces"] spSized := by
  have G_take := ok_take (P := P) (w := w) (base := base) T
  refine T.F_sized.ok sc_sized (fun vs H Q E h => ?_) (fun cdv A outer s H vs Q E hr h => ?_)
  · obtain ⟨q, o, n, rfl, _⟩ := h
    rfl
  · obtain ⟨q, o, n', rfl, ho, hp, hn0, hn, hq⟩ := h
    obtain ⟨n, rfl⟩ := Int.eq_ofNat_of_zero_le hn0
    refine ⟨_, (pss_cons (ps_set (i := 2) sc_sized.nd rfl (.inl rfl) (pe_call G_take (hr.mono (by decide)) (by rfl) T.g_take T.F_take.kp T.b_take .nil pass0 (pa_cons (pv 0) (pa_cons pe_int pa_nil))))
 (pss_cons (ps_set (i := 3) sc_sized.nd rfl (.inl rfl) (pe_call G_take (hr.mono (by decide)) (by rfl) T.g_take T.F_take.kp T.b_take .nil pass0 (pa_cons (pv 0) (pa_cons pe_int pa_nil))))
 (pss_cons (ps_if (pt_cmpR op_eq (pv 2) pe_int (nomark _)) (pss_one (ps_set (i := 3) sc_sized.nd rfl (.inl rfl) (pe_call G_take (hr.mono (by decide)) (by rfl) T.g_take T.F_take.kp T.b_take .nil pass0 (pa_cons (pv 0) (pa_cons pe_int pa_nil))))) pss_nil)
 (pss_cons (ps_if (pt_cmpR op_eq (pv 2) pe_int (nomark _)) (pss_one (ps_set (i := 3) sc_sized.nd rfl (.inl rfl) (pe_call G_take (hr.mono (by decide)) (by rfl) T.g_take T.F_take.kp T.b_take .nil pass0 (pa_cons (pv 0) (pa_cons pe_int pa_nil))))) pss_nil)
 (pss_cons (ps_if (pt_cmpR op_eq (pv 2) pe_int (nomark _)) (pss_cons (ps_set (i := 3) sc_sized.nd rfl (.inl rfl) pe_int)
 (pss_one (ps_for PassesOwn.never rfl (pi_range1 (by rfl) T.m_range (pa_cons (pv 1) pa_nil)) (pg_name (i := 4) sc_sized.nd rfl (.inl rfl)) (pss_one (ps_set (i := 3) sc_sized.nd rfl (.inl rfl) (pe_op op_add (pe_op op_mul (pv 3) pe_int) (pe_call G_take (hr.mono (by decide)) (by rfl) T.g_take T.F_take.kp T.b_take .nil pass0 (pa_cons (pv 0) (pa_cons pe_int pa_nil))))))))) pss_nil)
 (pss_cons (ps_if (pt_cmpR op_eq (pe_call G_take (hr.mono (by decide)) (by rfl) T.g_take T.F_take.kp T.b_take .nil pass0 (pa_cons (pv 0) (pa_cons pe_int pa_nil))) pe_int (nomark _)) (pss_one (ps_ret (pe_un un_neg (pv 3)))) pss_nil)
 (pss_one (ps_ret (pv 3))))))))), ?_⟩
    refine Z.w_start (σ' := [some (.ref q), some (.int n), none, none, none]) rfl ?_
    walk_at "w"
    walk_at "wi"
    · walk_at "w"
      walk_at "wi" <;> walk_at "w" <;> exact hq _ _ (by omega) (by omega) (by assumption)
    · walk_at "w"
      walk_at "wi"
      · walk_at "w"
        walk_at "wi" <;> walk_at "w" <;> exact hq _ _ (by omega) (by omega) (by assumption)
      · walk_at "w"
        walk_at "wi"
        · walk_at "w"
          refine ⟨by omega, by omega, ?_⟩
          refine for_range (lo := 0) (n := n) (fun i σ H' => ∃ (t : Int) (o' : HO) (x2 x4 : Option V), σ = [some (.ref q), some (.int n), x2, some (.int t), x4] ∧ H' = upd H q o' ∧ IsPool o' ∧ 0 ≤ t ∧ t < 1000000 ^ i) ?_ ?_ ?_
          · exact ⟨0, _, _, _, rfl, rfl, by assumption, by omega, by omega⟩
          · rintro i σ H' hi ⟨t, o1, x2, x4, rfl, rfl, hp1, ht, ht2⟩
            walk_at "w"
            refine ⟨_, _, _, _, rfl, rfl, by assumption, by omega, ?_⟩
            rw [Int.pow_succ]
            omega
          · rintro σ H' ⟨t, o1, x2, x4, rfl, rfl, hp1, ht, ht2⟩
            have h18 : t < 10 ^ 18 := by
              rcases (show n = 0 ∨ n = 1 ∨ n = 2 ∨ n = 3 by omega) with rfl | rfl | rfl | rfl <;> omega
            walk_at "w"
            walk_at "wi" <;> walk_at "w" <;> exact hq _ _ (by omega) (by omega) (by assumption)
        · walk_at "w"
          walk_at "wi" <;> walk_at "w" <;> exact hq _ _ (by omega) (by omega) (by assumption)
theorem use_sized {q : Addr} {o : HO} {n : Int} {H : Hp} {Q : VK} {E : XK} (h : H q = some o) (hp : IsPool o) (h1 : 0 ≤ n) (h2 : n ≤ 3) (hq : ∀ r o', -(10 ^ 18 : Int) < r → r < 10 ^ 18 → IsPool o' → Q (.int r) (upd H q o')) : spSized [.ref q, .int n] H Q E := ⟨q, o, n, rfl, h, hp, h1, h2, hq⟩
theorem use_sizedU {q : Addr} {o : HO} {n : Int} {H : Hp} {Q : VK} {E : XK} (hp : IsPool o) (h1 : 0 ≤ n) (h2 : n ≤ 3) (hq : ∀ r o', -(10 ^ 18 : Int) < r → r < 10 ^ 18 → IsPool o' → Q (.int r) (upd H q o')) : spSized [.ref q, .int n] (upd H q o) Q E := ⟨q, o, n, rfl, upd_same, hp, h1, h2, fun r o' a b c => by rw [upd_upd]; exact hq r o' a b c⟩
end
end L

local macro_rules | `(tactic| walk_at "w1") => `(tactic| first
  | ((with_reducible refine' L.use_takeU ?wp ?wa ?wb (fun r o' h0 h1 hp => ?_)); (case wp => assumption); (case wa => omega); (case wb => omega))
  | ((with_reducible refine' L.use_take ?wh ?wp ?wa ?wb (fun r o' h0 h1 hp => ?_)); (case wh => walk_at "hp"); (case wp => assumption); (case wa => omega); (case wb => omega))
  | ((with_reducible refine' L.use_sizedU ?wp ?wa ?wb (fun r o' h0 h1 hp => ?_)); (case wp => assumption); (case wa => walk_at "sz"); (case wb => walk_at "sz"))
  | ((with_reducible refine' L.use_sized ?wh ?wp ?wa ?wb (fun r o' h0 h1 hp => ?_)); (case wh => walk_at "hp"); (case wp => assumption); (case wa => walk_at "sz"); (case wb => walk_at "sz"))
  | with_reducible refine L.use_whole ?_)

namespace M
theorem mulb {a b : Int} (h1 : -(2 ^ 20) ≤ a) (h2 : a ≤ 2 ^ 20) (h3 : -(2 ^ 60) < b) (h4 : b < 2 ^ 60) : -(2 ^ 90) < a * b ∧ a * b < 2 ^ 90 := by
  have ha : a.natAbs ≤ 2 ^ 20 := by omega
  have hb : b.natAbs ≤ 2 ^ 60 := by omega
  have h := Nat.mul_le_mul ha hb
  rw [← Int.natAbs_mul] at h
  omega
theorem bits_lt (b : Nat) : b < 2 ^ PySem.Builtin.Int.intBits (b : Int) := by
  unfold PySem.Builtin.Int.intBits
  by_cases h : b = 0
  · subst h; decide
  · have e : ((b : Int) == 0) = false := by
      simp only [beq_eq_false_iff_ne]
      omega
    rw [e]
    simp only [Bool.false_eq_true, if_false, Int.natAbs_natCast]
    exact Nat.lt_log2_self
theorem half {x y : Nat} (h : y < x) (hy : 0 < y) : 2 * (x % y) < x := by
  have h1 := Nat.mod_lt x hy
  have h2 := Nat.div_add_mod x y
  have h3 : 1 ≤ x / y := (Nat.le_div_iff_mul_le hy).mpr (by omega)
  have h4 : y * 1 ≤ y * (x / y) := Nat.mul_le_mul_left y h3
  omega
/-- Euclid's pairs: A, B the first, L bits of B, i turns -/
def Eu (A B L i x y : Nat) : Prop := Nat.gcd x y = Nat.gcd A B ∧ (i = 0 → x = A ∧ y = B) ∧ (1 ≤ i → y < x ∧ x * y * 2 ^ (i - 1) < 2 ^ (2 * L))
theorem eu_zero (A B L : Nat) : Eu A B L 0 A B := ⟨rfl, fun _ => ⟨rfl, rfl⟩, fun h => by omega⟩
theorem eu_next {A B L i x y : Nat} (hB : B < 2 ^ L) (h : Eu A B L i x y) (hy : y ≠ 0) : Eu A B L (i + 1) y (x % y) := by
  obtain ⟨g, h0, h1⟩ := h
  have hy' : 0 < y := by omega
  have hm := Nat.mod_lt x hy'
  refine ⟨?_, fun z => by omega, fun _ => ⟨hm, ?_⟩⟩
  · rw [← g, Nat.gcd_comm x y, Nat.gcd_rec y x]
    exact (Nat.gcd_comm _ _)
  · show y * (x % y) * 2 ^ (i + 1 - 1) < 2 ^ (2 * L)
    rw [Nat.add_sub_cancel]
    by_cases hi : i = 0
    · obtain ⟨rfl, rfl⟩ := h0 hi
      subst hi
      have e : 2 ^ (2 * L) = 2 ^ L * 2 ^ L := by rw [Nat.two_mul, Nat.pow_add]
      rw [e, Nat.pow_zero, Nat.mul_one]
      exact Nat.mul_lt_mul'' hB (by omega)
    · obtain ⟨hlt, hb⟩ := h1 (by omega)
      have hh := half hlt hy'
      have e : 2 ^ i = 2 * 2 ^ (i - 1) := by
        rw [show i = (i - 1) + 1 by omega, Nat.pow_succ, Nat.mul_comm]
        simp
      rw [e]
      have h5 : y * (x % y) * (2 * 2 ^ (i - 1)) = (2 * (x % y)) * y * 2 ^ (i - 1) := by
        simp only [Nat.mul_comm, Nat.mul_left_comm, Nat.mul_assoc]
      rw [h5]
      refine Nat.lt_of_le_of_lt ?_ hb
      exact Nat.mul_le_mul_right _ (Nat.mul_le_mul_right _ (by omega))
theorem eu_end {A B L i x y : Nat} (hi : i = 2 * L + 5) (h : Eu A B L i x y) : y = 0 := by
  obtain ⟨_, _, h1⟩ := h
  obtain ⟨hlt, hb⟩ := h1 (by omega)
  by_cases hy : y = 0
  · exact hy
  · exfalso
    have h2 : 1 ≤ x * y := Nat.mul_pos (by omega) (by omega)
    have h3 : 2 ^ (2 * L) ≤ 2 ^ (i - 1) := Nat.pow_le_pow_right (by decide) (by omega)
    have h4 : 1 * 2 ^ (i - 1) ≤ x * y * 2 ^ (i - 1) := Nat.mul_le_mul_right _ h2
    omega
theorem eu_gcd {A B L i x : Nat} (h : Eu A B L i x 0) : x = Nat.gcd A B := by
  have := h.1
  rw [Nat.gcd_zero_right] at this
  exact this
/-- what ratio makes of p / q -/
def RatOf (p q a b : Int) : Prop := 1 ≤ b ∧ Nat.gcd a.natAbs b.natAbs = 1 ∧ a * q = p * b ∧ a.natAbs ≤ p.natAbs ∧ b.natAbs ≤ q.natAbs
theorem rat_pos {p q : Int} (hq : 0 < q) : RatOf p q (p / ((Nat.gcd p.natAbs q.natAbs : Nat) : Int)) (q / ((Nat.gcd p.natAbs q.natAbs : Nat) : Int)) := by
  generalize hg : Nat.gcd p.natAbs q.natAbs = g
  have g0 : 0 < g := by rw [← hg]; exact Nat.gcd_pos_of_pos_right _ (by omega)
  have d1 : (g : Int) ∣ p := by
    rw [← hg]
    exact Int.ofNat_dvd_left.mpr (Nat.gcd_dvd_left _ _)
  have d2 : (g : Int) ∣ q := by
    rw [← hg]
    exact Int.ofNat_dvd_left.mpr (Nat.gcd_dvd_right _ _)
  obtain ⟨a, ha⟩ := d1
  obtain ⟨b, hb⟩ := d2
  have gz : (g : Int) ≠ 0 := by omega
  have e1 : p / (g : Int) = a := by rw [ha]; exact Int.mul_ediv_cancel_left _ gz
  have e2 : q / (g : Int) = b := by rw [hb]; exact Int.mul_ediv_cancel_left _ gz
  rw [e1, e2]
  have hbp : 0 < b := by
    rcases Int.lt_or_le 0 b with h | h
    · exact h
    · exfalso
      have : (g : Int) * b ≤ 0 := Int.mul_nonpos_of_nonneg_of_nonpos (by omega) h
      omega
  have np : p.natAbs = g * a.natAbs := by rw [ha, Int.natAbs_mul, Int.natAbs_natCast]
  have nq : q.natAbs = g * b.natAbs := by rw [hb, Int.natAbs_mul, Int.natAbs_natCast]
  refine ⟨by omega, ?_, ?_, ?_, ?_⟩
  · have h := hg
    rw [np, nq, Nat.gcd_mul_left] at h
    exact Nat.eq_of_mul_eq_mul_left g0 (by rw [h, Nat.mul_one])
  · rw [ha, hb]
    simp only [Int.mul_comm, Int.mul_left_comm, Int.mul_assoc]
  · rw [np]
    exact Nat.le_mul_of_pos_left _ g0
  · rw [nq]
    exact Nat.le_mul_of_pos_left _ g0
theorem rat_neg {p q : Int} (hq : q < 0) : RatOf p q (-p / ((Nat.gcd (-p).natAbs (-q).natAbs : Nat) : Int)) (-q / ((Nat.gcd (-p).natAbs (-q).natAbs : Nat) : Int)) := by
  obtain ⟨h1, h2, h3, h4, h5⟩ := rat_pos (p := -p) (q := -q) (by omega)
  refine ⟨h1, h2, ?_, by omega, by omega⟩
  rw [Int.mul_neg, Int.neg_mul] at h3
  exact Int.neg_inj.mp h3
end M

namespace L
open PySem PySem.Spec PyProof.Rows L2 Z M
section
variable {P : Program} {w : World} {K : PySem.W.Frag} {mg : Str → Option Value} {base : Heap}
/-- (p // g, q // g) -/
def lowP (p q : Int) : Int := p / ((Nat.gcd p.natAbs q.natAbs : Nat) : Int)
def lowQ (p q : Int) : Int := q / ((Nat.gcd p.natAbs q.natAbs : Nat) : Int)
def spLowest : Sp := fun vs H Q _ => ∃ p q : Int, vs = [.int p, .int q] ∧ 0 < q ∧ p.natAbs < 2 ^ 200 ∧ q.natAbs < 2 ^ 200 ∧ ∀ t, H t = none → Q (.ref t) (upd H t (.tup [.int (lowP p q), .int (lowQ p q)]))
theorem ok_lowest (T : Txt K mg) : FnOk P w K mg base CX0 1 T.f_lowest T.fd_lowest ["_law_p", "_law_q"] spLowest := by
  refine T.F_lowest.ok sc_lowest (fun vs H Q E h => ?_) (fun cdv A outer s H vs Q E hr h => ?_)
  · obtain ⟨a, b, rfl, _⟩ := h
    rfl
  · obtain ⟨p, q, rfl, h0, hp, hb, hq⟩ := h
    refine ⟨_, (pss_cons (ps_set (i := 2) sc_lowest.nd rfl (.inl rfl) (pe_callB call_abs (by rfl) T.m_abs (by decide +kernel) (pa_cons (pv 0) pa_nil)))
 (pss_cons (ps_set (i := 3) sc_lowest.nd rfl (.inl rfl) (pv 1))
 (pss_cons (ps_for PassesOwn.never rfl (pi_range1 (by rfl) T.m_range (pa_cons (pe_op op_add (pe_op op_mul pe_int (pe_bits (pv 3))) pe_int) pa_nil)) (pg_name (i := 4) sc_lowest.nd rfl (.inl rfl)) (pss_cons (ps_if (pt_cmpR op_eq (pv 3) pe_int (nomark _)) (pss_one ps_break) pss_nil)
 (pss_one (ps_par (i := 2) (j := 3) (by rfl) sc_lowest.nd rfl rfl (by decide) rfl rfl (pa_cons (pv 3) (pa_cons (pe_op op_mod (pe_callTy call_int1 (by rfl) T.m_int (by decide +kernel) (pa_cons (pv 2) pa_nil)) (pe_callTy call_int1 (by rfl) T.m_int (by decide +kernel) (pa_cons (pv 3) pa_nil))) pa_nil)) (by rfl)))))
 (pss_one (ps_ret (pe_tup (pa_cons (pe_op op_fdivW (pv 0) (pv 2)) (pa_cons (pe_op op_fdivW (pv 1) (pv 2)) pa_nil)))))))), ?_⟩
    refine Z.w_start (σ' := [some (.int p), some (.int q), none, none, none]) rfl ?_
    walk_at "w"
    have ea : (if p < 0 then -p else p) = (p.natAbs : Int) := by split <;> omega
    have eb : q = (q.natAbs : Int) := by omega
    rw [ea]
    have hL := bits_lt q.natAbs
    have hL2 : Builtin.Int.intBits (q.natAbs : Int) ≤ 201 := by
      unfold Builtin.Int.intBits
      split
      · omega
      · have := PySem.Flt.log2_lt_of (show 0 < 200 by decide) hb
        rw [Int.natAbs_natCast]
        omega
    rw [← eb] at hL hL2
    generalize hn : Builtin.Int.intBits q = n at *
    refine ⟨by omega, by omega, ?_⟩
    refine for_range (lo := 0) (n := (2 * (n : Int) + 5).toNat) (fun i σ H' => ∃ (u v : Nat) (x4 : Option V), σ = [some (.int p), some (.int q), some (.int u), some (.int v), x4] ∧ H' = H ∧ Eu p.natAbs q.natAbs n i u v) ?_ ?_ ?_
    · exact ⟨p.natAbs, q.natAbs, _, by rw [← eb], rfl, eu_zero _ _ _⟩
    · rintro i σ H' hi ⟨u, v, x2, rfl, rfl, he⟩
      walk_at "w"
      walk_at "wi"
      · rename_i hv
        have hv' : v = 0 := by omega
        subst hv'
        have hg := eu_gcd he
        subst hg
        have g0 : 0 < Nat.gcd p.natAbs q.natAbs := Nat.gcd_pos_of_pos_right _ (by omega)
        have g1 : Nat.gcd p.natAbs q.natAbs ≤ q.natAbs := Nat.le_of_dvd (by omega) (Nat.gcd_dvd_right _ _)
        walk_at "w"
        exact hq _ (by assumption)
      · walk_at "w"
        exact ⟨v, u % v, _, rfl, rfl, eu_next hL he (by omega)⟩
    · rintro σ H' ⟨u, v, x2, rfl, rfl, he⟩
      have hv := eu_end (by omega) he
      subst hv
      have hg := eu_gcd he
      subst hg
      have g0 : 0 < Nat.gcd p.natAbs q.natAbs := Nat.gcd_pos_of_pos_right _ (by omega)
      have g1 : Nat.gcd p.natAbs q.natAbs ≤ q.natAbs := Nat.le_of_dvd (by omega) (Nat.gcd_dvd_right _ _)
      walk_at "w"
      exact hq _ (by assumption)
theorem use_lowest {p q : Int} {H : Hp} {Q : VK} {E : XK} (h0 : 0 < q) (h1 : p.natAbs < 2 ^ 200) (h2 : q.natAbs < 2 ^ 200) (h : ∀ t, H t = none → Q (.ref t) (upd H t (.tup [.int (lowP p q), .int (lowQ p q)]))) : spLowest [.int p, .int q] H Q E := ⟨p, q, rfl, h0, h1, h2, h⟩
/-- in lowest terms, of at most 90 bits -/
def Lo (a b : Int) : Prop := 1 ≤ b ∧ b < 2 ^ 90 ∧ -(2 ^ 90 : Int) < a ∧ a < 2 ^ 90 ∧ Nat.gcd a.natAbs b.natAbs = 1
theorem lo_low {p q : Int} (h0 : 0 < q) (h1 : q < 2 ^ 90) (h2 : -(2 ^ 90 : Int) < p) (h3 : p < 2 ^ 90) : Lo (lowP p q) (lowQ p q) := by
  obtain ⟨r1, r2, r3, r4, r5⟩ := rat_pos (p := p) h0
  exact ⟨r1, by unfold lowQ; omega, by unfold lowP; omega, by unfold lowP; omega, r2⟩
theorem low_self {p q : Int} (h : Nat.gcd p.natAbs q.natAbs = 1) : lowP p q = p ∧ lowQ p q = q := by
  unfold lowP lowQ
  rw [h]
  exact ⟨Int.ediv_one p, Int.ediv_one q⟩
end
end L

namespace L
open PySem PySem.Spec PyProof.Rows L2 Z M X0
section
variable {P : Program} {w : World} {K : PySem.W.Frag} {mg : Str → Option Value} {base : Heap}
def RatEnd (C : Addr) (p q : Int) (H : Hp) (Q : VK) (E : XK) : Prop := (q = 0 → E (.ref C) none H) ∧ (q ≠ 0 → ∀ (a b : Int) (t : Addr), RatOf p q a b → H t = none → Q (.ref t) (upd H t (.tup [.int a, .int b])))
def spRatio (C : Addr) : Sp := fun vs H Q E => ∃ p q : Int, vs = [.int p, .int q] ∧ p.natAbs < 2 ^ 200 ∧ q.natAbs < 2 ^ 200 ∧ RatEnd C p q H Q E
theorem ok_ratio (T : Txt K mg) : FnOk P w K mg base (L2.CX P w) 1 T.f_ratio T.fd_ratio ["p", "q"] (spRatio T.C_BadRatio) := by
  refine T.F_ratio.ok sc_ratio (fun vs H Q E h => ?_) (fun cdv A outer s H vs Q E hr h => ?_)
  · obtain ⟨p, q, rfl, _⟩ := h
    rfl
  · obtain ⟨p, q, rfl, hp, hq, h0, h1⟩ := h
    refine ⟨_, (pss_cons (ps_if (pt_cmpR op_eq (pv 1) pe_int (nomark _)) (pss_one (ps_raise rfl (takes_of rfl rfl rfl rfl) (pmk_own0 PySem.F.excBase_ValueError T.q_BadRatio T.c_BadRatio T.k_BadRatio (raises_own T.r_BadRatio T.t_BadRatio) rfl))) pss_nil)
 (pss_cons (ps_if (pt_cmpR op_lt (pv 1) pe_int (nomark _)) (pss_one (ps_par (i := 0) (j := 1) (by rfl) sc_ratio.nd rfl rfl (by decide) rfl rfl (pa_cons (pe_un un_neg (pv 0)) (pa_cons (pe_un un_neg (pv 1)) pa_nil)) (by rfl))) pss_nil)
 (pss_cons (ps_set (i := 2) sc_ratio.nd rfl (.inl rfl) (pe_callBfun cr_gcd (by rfl) T.m_gcd (pa_cons (pv 0) (pa_cons (pv 1) pa_nil))))
 (pss_one (ps_ret (pe_tup (pa_cons (pe_op op_fdivW (pv 0) (pv 2)) (pa_cons (pe_op op_fdivW (pv 1) (pv 2)) pa_nil)))))))), ?_⟩
    refine Z.w_start (σ' := [some (.int p), some (.int q), none]) rfl ?_
    walk_at "w"
    walk_at "wi"
    · rename_i hz
      subst hz
      exact h0 rfl
    · walk_at "w"
      walk_at "wi"
      · rename_i hn
        walk_at "w"
        have hg : 0 < Nat.gcd (-p).natAbs (-q).natAbs := Nat.gcd_pos_of_pos_right _ (by omega)
        have hg2 : Nat.gcd (-p).natAbs (-q).natAbs ≤ (-q).natAbs := Nat.le_of_dvd (by omega) (Nat.gcd_dvd_right _ _)
        walk_at "w"
        exact h1 (by omega) _ _ _ (rat_neg hn) (by assumption)
      · have hg : 0 < Nat.gcd p.natAbs q.natAbs := Nat.gcd_pos_of_pos_right _ (by omega)
        have hg2 : Nat.gcd p.natAbs q.natAbs ≤ q.natAbs := Nat.le_of_dvd (by omega) (Nat.gcd_dvd_right _ _)
        walk_at "w"
        exact h1 (by omega) _ _ _ (rat_pos (by omega)) (by assumption)
/-- ratio's three calls -/
theorem b_ratio2 (T : Txt K mg) : Binds K T.fd_ratio ["p", "q"] [] := by
  obtain ⟨ds, h, b⟩ := T.F_ratio.binds1 (ps := ["p", "q"]) 2 1 (by decide) rfl fun Tt kV doc pm an cdv ct us its h1 h2 => match us, its, h1, h2 with | [_, _], [_], _, _ => ⟨_, rfl, rfl⟩
  cases h
  exact b
theorem b_ratio1 (T : Txt K mg) : ∃ ds, Vals [.int 1] ds ∧ Binds K T.fd_ratio ["p", "q"] ds := by
  obtain ⟨ds, h, b⟩ := T.F_ratio.binds1 (ps := ["p", "q"]) 1 0 (by decide) rfl fun Tt kV doc pm an cdv ct us its h1 h2 => match us, its, h1, h2 with | [_], [_], _, _ => ⟨_, rfl, rfl⟩
  exact ⟨ds, h, b⟩
theorem b_ratioK (T : Txt K mg) : KBn K T.fd_ratio ["p", "q"] 1 ["q"] (fun us ws => us ++ ws) (fun vs zs => vs ++ zs) := by
  obtain ⟨its, b⟩ := kbinds1 T.F_ratio 1 ["q"] (ps := ["p", "q"]) (fun us _ ws => us ++ ws) (by decide) (fun a _ c => a.append c) fun Tt kV doc pm an cdv ct us its ws h1 h2 h3 => match us, its, ws, h1, h2, h3 with | [_], [_], [_], _, _, _ => ⟨_, rfl, rfl⟩
  exact b
theorem use_ratio {C : Addr} {p q : Int} {H : Hp} {Q : VK} {E : XK} (h1 : p.natAbs < 2 ^ 200) (h2 : q.natAbs < 2 ^ 200) (h : RatEnd C p q H Q E) : spRatio C [.int p, .int q] H Q E := ⟨p, q, rfl, h1, h2, h⟩
end
end L

namespace L
open PySem PySem.Spec PyProof.Rows L2 Z M X0
theorem mb {a b : Int} (h1 : -(2 ^ 90 : Int) < a) (h2 : a < 2 ^ 90) (h3 : -(2 ^ 90 : Int) < b) (h4 : b < 2 ^ 90) : (a * b).natAbs < 2 ^ 180 := wide_lt (a := 90) (b := 90) (by omega) (by omega)
section
variable {P : Program} {w : World} {K : PySem.W.Frag} {mg : Str → Option Value} {base : Heap}
/-- two ratios are passed -/
def spBin (f : Int → Int → Int → Int → Int) (g : Int → Int → Int → Int → Int) : Sp := fun vs H Q _ => ∃ (x y : Addr) (a b c d : Int), vs = [.ref x, .ref y] ∧ H x = some (.tup [.int a, .int b]) ∧ H y = some (.tup [.int c, .int d]) ∧ Lo a b ∧ Lo c d ∧ g a b c d ≠ 0 ∧
  ∀ (p q : Int) (t : Addr), RatOf (f a b c d) (g a b c d) p q → H t = none → Q (.ref t) (upd H t (.tup [.int p, .int q]))
theorem ok_plus (T : Txt K mg) : FnOk P w K mg base CX0 2 T.f_plus T.fd_plus ["a", "b"] (spBin (fun a b c d => a * d + c * b) fun a b c d => b * d) := by
  have G_ratio := ok_ratio (P := P) (w := w) (base := base) T
  refine T.F_plus.ok sc_plus (fun vs H Q E h => ?_) (fun cdv A outer s H vs Q E hr h => ?_)
  · obtain ⟨x, y, a, b, c, d, rfl, _⟩ := h
    rfl
  · obtain ⟨x, y, a, b, c, d, rfl, hx, hy, ⟨a1, a2, a3, a4, a5⟩, ⟨c1, c2, c3, c4, c5⟩, hz, hq⟩ := h
    have m1 := mb a3 a4 (show -(2 ^ 90 : Int) < d by omega) c2
    have m2 := mb c3 c4 (show -(2 ^ 90 : Int) < b by omega) a2
    have m3 := mb (show -(2 ^ 90 : Int) < b by omega) a2 (show -(2 ^ 90 : Int) < d by omega) c2
    refine ⟨_, (pss_one (ps_ret (pe_call G_ratio (hr.mono (by decide)) (by rfl) T.g_ratio T.F_ratio.kp (b_ratio2 T) .nil passL (pa_cons (pe_op op_add (pe_op op_mulW (pe_ix ix_tup (pv 0) pe_int (fun _ _ => rfl)) (pe_ix ix_tup (pv 1) pe_int (fun _ _ => rfl))) (pe_op op_mulW (pe_ix ix_tup (pv 1) pe_int (fun _ _ => rfl)) (pe_ix ix_tup (pv 0) pe_int (fun _ _ => rfl)))) (pa_cons (pe_op op_mulW (pe_ix ix_tup (pv 0) pe_int (fun _ _ => rfl)) (pe_ix ix_tup (pv 1) pe_int (fun _ _ => rfl))) pa_nil))))), ?_⟩
    refine Z.w_start (σ' := [some (.ref x), some (.ref y)]) rfl ?_
    walk_at "w"
    exact use_ratio (by omega) (by omega) ⟨fun z => absurd z hz, fun _ => hq⟩
theorem ok_minus (T : Txt K mg) : FnOk P w K mg base CX0 2 T.f_minus T.fd_minus ["a", "b"] (spBin (fun a b c d => a * d - c * b) fun a b c d => b * d) := by
  have G_ratio := ok_ratio (P := P) (w := w) (base := base) T
  refine T.F_minus.ok sc_minus (fun vs H Q E h => ?_) (fun cdv A outer s H vs Q E hr h => ?_)
  · obtain ⟨x, y, a, b, c, d, rfl, _⟩ := h
    rfl
  · obtain ⟨x, y, a, b, c, d, rfl, hx, hy, ⟨a1, a2, a3, a4, a5⟩, ⟨c1, c2, c3, c4, c5⟩, hz, hq⟩ := h
    have m1 := mb a3 a4 (show -(2 ^ 90 : Int) < d by omega) c2
    have m2 := mb c3 c4 (show -(2 ^ 90 : Int) < b by omega) a2
    have m3 := mb (show -(2 ^ 90 : Int) < b by omega) a2 (show -(2 ^ 90 : Int) < d by omega) c2
    refine ⟨_, (pss_one (ps_ret (pe_call G_ratio (hr.mono (by decide)) (by rfl) T.g_ratio T.F_ratio.kp (b_ratio2 T) .nil passL (pa_cons (pe_op op_sub (pe_op op_mulW (pe_ix ix_tup (pv 0) pe_int (fun _ _ => rfl)) (pe_ix ix_tup (pv 1) pe_int (fun _ _ => rfl))) (pe_op op_mulW (pe_ix ix_tup (pv 1) pe_int (fun _ _ => rfl)) (pe_ix ix_tup (pv 0) pe_int (fun _ _ => rfl)))) (pa_cons (pe_op op_mulW (pe_ix ix_tup (pv 0) pe_int (fun _ _ => rfl)) (pe_ix ix_tup (pv 1) pe_int (fun _ _ => rfl))) pa_nil))))), ?_⟩
    refine Z.w_start (σ' := [some (.ref x), some (.ref y)]) rfl ?_
    walk_at "w"
    exact use_ratio (by omega) (by omega) ⟨fun z => absurd z hz, fun _ => hq⟩
theorem ok_times (T : Txt K mg) : FnOk P w K mg base CX0 2 T.f_times T.fd_times ["a", "b"] (spBin (fun a b c d => a * c) fun a b c d => b * d) := by
  have G_ratio := ok_ratio (P := P) (w := w) (base := base) T
  refine T.F_times.ok sc_times (fun vs H Q E h => ?_) (fun cdv A outer s H vs Q E hr h => ?_)
  · obtain ⟨x, y, a, b, c, d, rfl, _⟩ := h
    rfl
  · obtain ⟨x, y, a, b, c, d, rfl, hx, hy, ⟨a1, a2, a3, a4, a5⟩, ⟨c1, c2, c3, c4, c5⟩, hz, hq⟩ := h
    have m1 := mb a3 a4 c3 c4
    have m3 := mb (show -(2 ^ 90 : Int) < b by omega) a2 (show -(2 ^ 90 : Int) < d by omega) c2
    refine ⟨_, (pss_one (ps_ret (pe_call G_ratio (hr.mono (by decide)) (by rfl) T.g_ratio T.F_ratio.kp (b_ratio2 T) .nil passL (pa_cons (pe_op op_mulW (pe_ix ix_tup (pv 0) pe_int (fun _ _ => rfl)) (pe_ix ix_tup (pv 1) pe_int (fun _ _ => rfl))) (pa_cons (pe_op op_mulW (pe_ix ix_tup (pv 0) pe_int (fun _ _ => rfl)) (pe_ix ix_tup (pv 1) pe_int (fun _ _ => rfl))) pa_nil))))), ?_⟩
    refine Z.w_start (σ' := [some (.ref x), some (.ref y)]) rfl ?_
    walk_at "w"
    exact use_ratio (by omega) (by omega) ⟨fun z => absurd z hz, fun _ => hq⟩
def spOver (C : Addr) : Sp := fun vs H Q E => ∃ (x y : Addr) (a b c d : Int), vs = [.ref x, .ref y] ∧ H x = some (.tup [.int a, .int b]) ∧ H y = some (.tup [.int c, .int d]) ∧ Lo a b ∧ Lo c d ∧ RatEnd C (a * d) (b * c) H Q E
theorem ok_over (T : Txt K mg) : FnOk P w K mg base (L2.CX P w) 2 T.f_over T.fd_over ["a", "b"] (spOver T.C_BadRatio) := by
  have G_ratio := ok_ratio (P := P) (w := w) (base := base) T
  refine T.F_over.okX sc_over (fun vs H Q E h => ?_) (fun cdv A outer s H vs Q E hr h => ?_)
  · obtain ⟨x, y, a, b, c, d, rfl, _⟩ := h
    rfl
  · obtain ⟨x, y, a, b, c, d, rfl, hx, hy, ⟨a1, a2, a3, a4, a5⟩, ⟨c1, c2, c3, c4, c5⟩, h⟩ := h
    have m1 := mb a3 a4 (show -(2 ^ 90 : Int) < d by omega) c2
    have m3 := mb (show -(2 ^ 90 : Int) < b by omega) a2 c3 c4
    refine ⟨_, (pss_one (ps_ret (pe_call G_ratio (hr.mono (by decide)) (by rfl) T.g_ratio T.F_ratio.kp (b_ratio2 T) .nil (passes_call (takes_of rfl rfl rfl rfl) fun _ _ _ _ h => h) (pa_cons (pe_op op_mulW (pe_ix ix_tup (pv 0) pe_int (fun _ _ => rfl)) (pe_ix ix_tup (pv 1) pe_int (fun _ _ => rfl))) (pa_cons (pe_op op_mulW (pe_ix ix_tup (pv 0) pe_int (fun _ _ => rfl)) (pe_ix ix_tup (pv 1) pe_int (fun _ _ => rfl))) pa_nil))))), ?_⟩
    refine Z.w_start (σ' := [some (.ref x), some (.ref y)]) rfl ?_
    walk_at "w"
    exact use_ratio (by omega) (by omega) h
def spOpp : Sp := fun vs H Q _ => ∃ (x : Addr) (a b : Int), vs = [.ref x] ∧ H x = some (.tup [.int a, .int b]) ∧ ∀ t, H t = none → Q (.ref t) (upd H t (.tup [.int (-a), .int b]))
theorem ok_opposite (T : Txt K mg) : FnOk P w K mg base CX0 1 T.f_opposite T.fd_opposite ["a"] spOpp := by
  refine T.F_opposite.ok sc_opposite (fun vs H Q E h => ?_) (fun cdv A outer s H vs Q E hr h => ?_)
  · obtain ⟨x, a, b, rfl, _⟩ := h
    rfl
  · obtain ⟨x, a, b, rfl, hx, h⟩ := h
    refine ⟨_, (pss_one (ps_ret (pe_tup (pa_cons (pe_un un_neg (pe_ix ix_tup (pv 0) pe_int (fun _ _ => rfl))) (pa_cons (pe_ix ix_tup (pv 0) pe_int (fun _ _ => rfl)) pa_nil))))), ?_⟩
    refine Z.w_start (σ' := [some (.ref x)]) rfl ?_
    walk_at "w"
    exact h _ (by assumption)
def cmp4 (a b c d : Int) : Int := if a * d = c * b then 0 else if a * d < c * b then -1 else 1
def spCompare : Sp := fun vs H Q _ => ∃ (x y : Addr) (a b c d : Int), vs = [.ref x, .ref y] ∧ H x = some (.tup [.int a, .int b]) ∧ H y = some (.tup [.int c, .int d]) ∧ Lo a b ∧ Lo c d ∧ Q (.int (cmp4 a b c d)) H
theorem ok_compare (T : Txt K mg) : FnOk P w K mg base CX0 1 T.f_compare T.fd_compare ["a", "b"] spCompare := by
  refine T.F_compare.ok sc_compare (fun vs H Q E h => ?_) (fun cdv A outer s H vs Q E hr h => ?_)
  · obtain ⟨x, y, a, b, c, d, rfl, _⟩ := h
    rfl
  · obtain ⟨x, y, a, b, c, d, rfl, hx, hy, ⟨a1, a2, a3, a4, a5⟩, ⟨c1, c2, c3, c4, c5⟩, h⟩ := h
    unfold cmp4 at h
    have m1 := mb a3 a4 (show -(2 ^ 90 : Int) < d by omega) c2
    have m2 := mb c3 c4 (show -(2 ^ 90 : Int) < b by omega) a2
    refine ⟨_, (pss_cons (ps_set (i := 2) sc_compare.nd rfl (.inl rfl) (pe_op op_mulW (pe_ix ix_tup (pv 0) pe_int (fun _ _ => rfl)) (pe_ix ix_tup (pv 1) pe_int (fun _ _ => rfl))))
 (pss_cons (ps_set (i := 3) sc_compare.nd rfl (.inl rfl) (pe_op op_mulW (pe_ix ix_tup (pv 1) pe_int (fun _ _ => rfl)) (pe_ix ix_tup (pv 0) pe_int (fun _ _ => rfl))))
 (pss_cons (ps_if (pt_cmpR op_eq (pv 2) (pv 3) (nomark _)) (pss_one (ps_ret pe_int)) pss_nil)
 (pss_one (ps_ret (pe_ifExp (pt_cmpR op_lt (pv 2) (pv 3) (nomark _)) (pe_un un_neg pe_int) pe_int)))))), ?_⟩
    refine Z.w_start (σ' := [some (.ref x), some (.ref y), none, none]) rfl ?_
    walk_at "w"
    walk_at "wi"
    · rename_i e
      rw [if_pos e] at h
      walk_at "w"
      exact h
    · rename_i e
      rw [if_neg e] at h
      walk_at "w"
      walk_at "wi"
      · rename_i e2
        rw [if_pos e2] at h
        walk_at "w"
        exact h
      · rename_i e2
        rw [if_neg e2] at h
        walk_at "w"
        exact h
end
end L

namespace L
open PySem PySem.Spec PyProof.Rows L2 Z M X0
section
variable {P : Program} {w : World} {K : PySem.W.Frag} {mg : Str → Option Value} {base : Heap}
/-- all but the pool at q is as it was -/
def But (q : Addr) (H H' : Hp) : Prop := ∀ x o, x ≠ q → H x = some o → H' x = some o
theorem But.refl (q : Addr) (H : Hp) : But q H H := fun _ _ _ h => h
theorem But.pool {q : Addr} {H H' : Hp} {o : HO} (b : But q H H') : But q H (upd H' q o) := fun x u hx e => by rw [upd_ne hx]; exact b x u hx e
theorem But.new {q t : Addr} {H H' : Hp} {o : HO} (b : But q H H') (h : H' t = none) : But q H (upd H' t o) := fun x u hx e => by rw [upd_ne (ne_of_none (b x u hx e) h)]; exact b x u hx e
theorem But.trans {q : Addr} {H H1 H2 : Hp} (a : But q H H1) (b : But q H1 H2) : But q H H2 := fun x u hx e => b x u hx (a x u hx e)
theorem But.same {q : Addr} {H H1 H2 : Hp} (a : But q H H1) (b : Same H1 H2) : But q H H2 := fun x u hx e => b x u (a x u hx e)
theorem But.toSame {q : Addr} {H H' : Hp} (b : But q H H') (h : H q = none) : Same H H' := fun x u e => b x u (ne_of_none e h) e
/-- a new tuple of a ratio; the pool goes on -/
def spRat1 : Sp := fun vs H Q _ => ∃ (q : Addr) (o : HO) (n : Int), vs = [.ref q, .int n] ∧ H q = some o ∧ IsPool o ∧ 0 ≤ n ∧ n ≤ 3 ∧ ∀ (a b : Int) (t : Addr) (o' : HO), Lo a b → a < 2 ^ 60 → -(2 ^ 60 : Int) < a → b < 2 ^ 60 → IsPool o' → (upd H q o') t = none → Q (.ref t) (upd (upd H q o') t (.tup [.int a, .int b]))
theorem max1 {r : Int} : 0 < (if (if r < 0 then -r else r) > 1 then (if r < 0 then -r else r) else 1) ∧ (if (if r < 0 then -r else r) > 1 then (if r < 0 then -r else r) else 1) ≤ r.natAbs + 1 := by
  constructor <;> (repeat' split) <;> omega
theorem ok_Lratio (T : Txt K mg) : FnOk P w K mg base CX0 3 T.f_Lratio T.fd_Lratio ["_law_pool_here", "_law_pieces"] spRat1 := by
  have G_sized := ok_sized (P := P) (w := w) (base := base) T
  have G_lowest := ok_lowest (P := P) (w := w) (base := base) T
  refine T.F_Lratio.ok sc_Lratio (fun vs H Q E h => ?_) (fun cdv A outer s H vs Q E hr h => ?_)
  · obtain ⟨q, o, n, rfl, _⟩ := h
    rfl
  · obtain ⟨q, o, n, rfl, ho, hp, h0, h1, h⟩ := h
    refine ⟨_, (pss_cons (ps_set (i := 2) sc_Lratio.nd rfl (.inl rfl) (pe_call G_sized (hr.mono (by decide)) (by rfl) T.g_sized T.F_sized.kp T.b_sized .nil pass0 (pa_cons (pv 0) (pa_cons (pv 1) pa_nil))))
 (pss_one (ps_ret (pe_call G_lowest (hr.mono (by decide)) (by rfl) T.g_lowest T.F_lowest.kp T.b_lowest .nil pass0 (pa_cons (pv 2) (pa_cons (pe_callB (call_max2 rfl) (by rfl) T.m_max (by decide +kernel) (pa_cons pe_int (pa_cons (pe_callB call_abs (by rfl) T.m_abs (by decide +kernel) (pa_cons (pe_call G_sized (hr.mono (by decide)) (by rfl) T.g_sized T.F_sized.kp T.b_sized .nil pass0 (pa_cons (pv 0) (pa_cons (pv 1) pa_nil))) pa_nil)) pa_nil))) pa_nil)))))), ?_⟩
    refine Z.w_start (σ' := [some (.ref q), some (.int n), none]) rfl ?_
    walk_at "w"
    rename_i r1 o1 a1 a2 hp1 r2 o2 b1 b2 hp2
    have m := max1 (r := r2)
    refine use_lowest (by omega) (by omega) (by omega) fun t ht => ?_
    have l := lo_low (p := r1) m.1 (by omega) (by omega) (by omega)
    obtain ⟨_, _, _, z1, z2⟩ := rat_pos (p := r1) m.1
    exact h _ _ _ _ l (by unfold lowP; omega) (by unfold lowP; omega) (by unfold lowQ; omega) hp2 ht
theorem use_Lratio {q : Addr} {o : HO} {n : Int} {H : Hp} {Q : VK} {E : XK} (h : H q = some o) (hp : IsPool o) (h1 : 0 ≤ n) (h2 : n ≤ 3) (hq : ∀ (a b : Int) (t : Addr) (o' : HO), Lo a b → a < 2 ^ 60 → -(2 ^ 60 : Int) < a → b < 2 ^ 60 → IsPool o' → (upd H q o') t = none → Q (.ref t) (upd (upd H q o') t (.tup [.int a, .int b]))) : spRat1 [.ref q, .int n] H Q E := ⟨q, o, n, rfl, h, hp, h1, h2, hq⟩
def spSecond : Sp := fun vs H Q _ => ∃ (q x : Addr) (o : HO) (k a b : Int), vs = [.ref q, .int k, .ref x] ∧ x ≠ q ∧ H q = some o ∧ IsPool o ∧ H x = some (.tup [.int a, .int b]) ∧ Lo a b ∧ a < 2 ^ 60 ∧ -(2 ^ 60 : Int) < a ∧ b < 2 ^ 60 ∧
  ∀ (c d : Int) (t : Addr) (o' : HO), Lo c d → IsPool o' → (upd H q o') t = none → Q (.ref t) (upd (upd H q o') t (.tup [.int c, .int d]))
theorem ok_second (T : Txt K mg) : FnOk P w K mg base CX0 4 T.f_second T.fd_second ["_law_pool_here", "_law_way", "_law_a"] spSecond := by
  have G_take := ok_take (P := P) (w := w) (base := base) T
  have G_sized := ok_sized (P := P) (w := w) (base := base) T
  have G_lowest := ok_lowest (P := P) (w := w) (base := base) T
  have G_Lratio := ok_Lratio (P := P) (w := w) (base := base) T
  refine T.F_second.ok sc_second (fun vs H Q E h => ?_) (fun cdv A outer s H vs Q E hr h => ?_)
  · obtain ⟨q, x, o, k, a, b, rfl, _⟩ := h
    rfl
  · obtain ⟨q, x, o, k, a, b, rfl, hxq, ho, hp, hx, ⟨a1, a2, a3, a4, a5⟩, z1, z2, z3, h⟩ := h
    refine ⟨_, (pss_cons (ps_if (pt_cmpR op_eq (pv 1) pe_int (nomark _)) (pss_one (ps_ret (pe_tup (pa_cons (pe_ix ix_tup (pv 2) pe_int (fun _ _ => rfl)) (pa_cons (pe_ix ix_tup (pv 2) pe_int (fun _ _ => rfl)) pa_nil))))) pss_nil)
 (pss_cons (ps_if (pt_cmpR op_eq (pv 1) pe_int (nomark _)) (pss_one (ps_ret (pe_tup (pa_cons (pe_un un_neg (pe_ix ix_tup (pv 2) pe_int (fun _ _ => rfl))) (pa_cons (pe_ix ix_tup (pv 2) pe_int (fun _ _ => rfl)) pa_nil))))) pss_nil)
 (pss_cons (ps_if (PW.pt (pw_and (pt_cmpR op_eq (pv 1) pe_int (nomark _)) (pw_and1 (pt_cmpR op_gt (pe_ix ix_tup (pv 2) pe_int (fun _ _ => rfl)) pe_int (nomark _))))) (pss_one (ps_ret (pe_tup (pa_cons (pe_ix ix_tup (pv 2) pe_int (fun _ _ => rfl)) (pa_cons (pe_ix ix_tup (pv 2) pe_int (fun _ _ => rfl)) pa_nil))))) pss_nil)
 (pss_cons (ps_if (PW.pt (pw_and (pt_cmpR op_eq (pv 1) pe_int (nomark _)) (pw_and1 (pt_cmpR op_lt (pe_ix ix_tup (pv 2) pe_int (fun _ _ => rfl)) pe_int (nomark _))))) (pss_one (ps_ret (pe_tup (pa_cons (pe_un un_neg (pe_ix ix_tup (pv 2) pe_int (fun _ _ => rfl))) (pa_cons (pe_un un_neg (pe_ix ix_tup (pv 2) pe_int (fun _ _ => rfl))) pa_nil))))) pss_nil)
 (pss_cons (ps_if (PW.pt (pw_or (pt_cmpR op_eq (pv 1) pe_int (nomark _)) (pw_or1 (pt_cmpR op_eq (pv 1) pe_int (nomark _))))) (pss_one (ps_ret (pe_tup (pa_cons pe_int (pa_cons pe_int pa_nil))))) pss_nil)
 (pss_cons (ps_if (pt_cmpR op_eq (pv 1) pe_int (nomark _)) (pss_one (ps_ret (pe_call G_lowest (hr.mono (by decide)) (by rfl) T.g_lowest T.F_lowest.kp T.b_lowest .nil pass0 (pa_cons (pe_call G_sized (hr.mono (by decide)) (by rfl) T.g_sized T.F_sized.kp T.b_sized .nil pass0 (pa_cons (pv 0) (pa_cons pe_int pa_nil))) (pa_cons (pe_ix ix_tup (pv 2) pe_int (fun _ _ => rfl)) pa_nil))))) pss_nil)
 (pss_cons (ps_if (pt_cmpR op_eq (pv 1) pe_int (nomark _)) (pss_one (ps_ret (pe_call G_lowest (hr.mono (by decide)) (by rfl) T.g_lowest T.F_lowest.kp T.b_lowest .nil pass0 (pa_cons (pe_ix ix_tup (pv 2) pe_int (fun _ _ => rfl)) (pa_cons (pe_callB (call_max2 rfl) (by rfl) T.m_max (by decide +kernel) (pa_cons pe_int (pa_cons (pe_callB call_abs (by rfl) T.m_abs (by decide +kernel) (pa_cons (pe_call G_sized (hr.mono (by decide)) (by rfl) T.g_sized T.F_sized.kp T.b_sized .nil pass0 (pa_cons (pv 0) (pa_cons pe_int pa_nil))) pa_nil)) pa_nil))) pa_nil))))) pss_nil)
 (pss_cons (ps_if (pt_cmpR op_eq (pv 1) pe_int (nomark _)) (pss_cons (ps_set (i := 3) sc_second.nd rfl (.inl rfl) (pe_op op_add pe_int (pe_call G_take (hr.mono (by decide)) (by rfl) T.g_take T.F_take.kp T.b_take .nil pass0 (pa_cons (pv 0) (pa_cons pe_int pa_nil)))))
 (pss_one (ps_ret (pe_call G_lowest (hr.mono (by decide)) (by rfl) T.g_lowest T.F_lowest.kp T.b_lowest .nil pass0 (pa_cons (pe_op op_sub (pe_op op_add (pe_op op_mulW (pe_ix ix_tup (pv 2) pe_int (fun _ _ => rfl)) (pv 3)) pe_int) (pe_op op_mulW pe_int (pe_call G_take (hr.mono (by decide)) (by rfl) T.g_take T.F_take.kp T.b_take .nil pass0 (pa_cons (pv 0) (pa_cons pe_int pa_nil))))) (pa_cons (pe_op op_mulW (pe_ix ix_tup (pv 2) pe_int (fun _ _ => rfl)) (pv 3)) pa_nil)))))) pss_nil)
 (pss_one (ps_ret (pe_call G_Lratio (hr.mono (by decide)) (by rfl) T.g_Lratio T.F_Lratio.kp T.b_Lratio .nil pass0 (pa_cons (pv 0) (pa_cons pe_int pa_nil))))))))))))), ?_⟩
    refine Z.w_start (σ' := [some (.ref q), some (.int k), some (.ref x), none]) rfl ?_
    have hsame : upd H q o = H := by
      funext y
      unfold upd
      split
      · rename_i e
        rw [e, ho]
      · rfl
    have hE : ∀ (c d : Int) (t : Addr), Lo c d → H t = none → Q (.ref t) (upd H t (.tup [.int c, .int d])) := fun c d t l ht => by
      have := h c d t o l hp (by rw [hsame]; exact ht)
      rw [hsame] at this
      exact this
    have lo1 : Lo a b := ⟨a1, a2, a3, a4, a5⟩
    have lo2 : Lo (-a) b := ⟨a1, a2, by omega, by omega, by rw [Int.natAbs_neg]; exact a5⟩
    walk_at "w"
    walk_at "wi"
    · walk_at "w"
      exact hE _ _ _ lo1 (by assumption)
    · walk_at "w"
      walk_at "wi"
      · walk_at "w"
        exact hE _ _ _ lo2 (by assumption)
      · walk_at "w"
        walk_at "wi"
        · walk_at "w"
          walk_at "wi"
          · walk_at "w"
            exact hE _ _ _ ⟨by omega, by omega, by omega, by omega, by rw [Nat.gcd_comm]; exact a5⟩ (by assumption)
          · walk_at "w"
            walk_at "wi"
            · walk_at "w"
              exact hE _ _ _ ⟨by omega, by omega, by omega, by omega, by rw [Int.natAbs_neg, Int.natAbs_neg, Nat.gcd_comm]; exact a5⟩ (by assumption)
            · walk_at "w"
              exact hE _ _ _ ⟨by omega, by omega, by omega, by omega, by decide⟩ (by assumption)
        · walk_at "w"
          walk_at "wi"
          · walk_at "w"
            exact hE _ _ _ ⟨by omega, by omega, by omega, by omega, by decide⟩ (by assumption)
          · walk_at "w"
            walk_at "wi"
            · walk_at "w"
              refine use_lowest (by omega) (by omega) (by omega) fun t ht => ?_
              exact h _ _ _ _ (lo_low (by omega) (by omega) (by omega) (by omega)) (by assumption) ht
            · walk_at "w"
              walk_at "wi"
              · walk_at "w"
                rename_i r1 o1 _ _ hp1
                have m := max1 (r := r1)
                refine use_lowest m.1 (by omega) (by omega) fun t ht => ?_
                exact h _ _ _ _ (lo_low m.1 (by omega) (by omega) (by omega)) (by assumption) ht
              · walk_at "w"
                walk_at "wi"
                · walk_at "w"
                  rename_i r1 o1 w0 w1 hp1 r2 o2 w2 w3 hp2
                  have m1 := wide_lt (i := a) (j := 1 + r1) (a := 60) (b := 21) (by omega) (by omega)
                  have m2 := wide_lt (i := b) (j := 1 + r1) (a := 60) (b := 21) (by omega) (by omega)
                  have m3 : 0 < b * (1 + r1) := Int.mul_pos (by omega) (by omega)
                  refine use_lowest m3 (by omega) (by omega) fun t ht => ?_
                  exact h _ _ _ _ (lo_low m3 (by omega) (by omega) (by omega)) (by assumption) ht
                · walk_at "w"
                  refine use_Lratio ho hp (by omega) (by omega) fun c d t o' l _ _ _ hp' ht => ?_
                  exact h _ _ _ _ l hp' ht
theorem use_second {q x : Addr} {o : HO} {k a b : Int} {H : Hp} {Q : VK} {E : XK} (h1 : x ≠ q) (h2 : H q = some o) (h3 : IsPool o) (h4 : H x = some (.tup [.int a, .int b])) (h5 : Lo a b) (h6 : a < 2 ^ 60) (h7 : -(2 ^ 60 : Int) < a) (h8 : b < 2 ^ 60)
    (h : ∀ (c d : Int) (t : Addr) (o' : HO), Lo c d → IsPool o' → (upd H q o') t = none → Q (.ref t) (upd (upd H q o') t (.tup [.int c, .int d]))) : spSecond [.ref q, .int k, .ref x] H Q E := ⟨q, x, o, k, a, b, rfl, h1, h2, h3, h4, h5, h6, h7, h8, h⟩
/-- a tuple of two tuples -/
def spTwo2 : Sp := fun vs H Q _ => ∃ (q : Addr) (o : HO), vs = [.ref q] ∧ H q = some o ∧ IsPool o ∧ ∀ (a b c d : Int) (x y t : Addr) (o' : HO) (H' : Hp), Lo a b → Lo c d → IsPool o' → But q H H' → H' q = some o' → H' x = some (.tup [.int a, .int b]) → H' y = some (.tup [.int c, .int d]) → H' t = some (.tup [.ref x, .ref y]) → Q (.ref t) H'
theorem ok_two (T : Txt K mg) : FnOk P w K mg base CX0 5 T.f_two T.fd_two ["_law_pool_here"] spTwo2 := by
  have G_take := ok_take (P := P) (w := w) (base := base) T
  have G_Lratio := ok_Lratio (P := P) (w := w) (base := base) T
  have G_second := ok_second (P := P) (w := w) (base := base) T
  refine T.F_two.ok sc_two (fun vs H Q E h => ?_) (fun cdv A outer s H vs Q E hr h => ?_)
  · obtain ⟨q, o, rfl, _⟩ := h
    rfl
  · obtain ⟨q, o, rfl, ho, hp, h⟩ := h
    refine ⟨_, (pss_cons (ps_set (i := 1) sc_two.nd rfl (.inl rfl) (pe_call G_take (hr.mono (by decide)) (by rfl) T.g_take T.F_take.kp T.b_take .nil pass0 (pa_cons (pv 0) (pa_cons pe_int pa_nil))))
 (pss_cons (ps_set (i := 2) sc_two.nd rfl (.inl rfl) (pe_call G_Lratio (hr.mono (by decide)) (by rfl) T.g_Lratio T.F_Lratio.kp T.b_Lratio .nil pass0 (pa_cons (pv 0) (pa_cons (pe_op op_sub pe_int (pe_callTy call_int1 (by rfl) T.m_int (by decide +kernel) (pa_cons (pe_cmpR op_eq (pv 1) pe_int (nomark _)) pa_nil))) pa_nil))))
 (pss_one (ps_ret (pe_tup (pa_cons (pv 2) (pa_cons (pe_call G_second (hr.mono (by decide)) (by rfl) T.g_second T.F_second.kp T.b_second .nil pass0 (pa_cons (pv 0) (pa_cons (pv 1) (pa_cons (pv 2) pa_nil)))) pa_nil))))))), ?_⟩
    refine Z.w_start (σ' := [some (.ref q), none, none]) rfl ?_
    walk_at "w"
    rename_i way o1 _ _ hp1
    refine use_Lratio upd_same hp1 (by walk_at "sz") (by walk_at "sz") fun a b x o2 l b1 b2 b3 hp2 hx => ?_
    rw [upd_upd] at hx ⊢
    obtain ⟨xq, hxf⟩ := fresh_of hx
    walk_at "w"
    refine use_second xq (by walk_at "hp") hp2 upd_same l b1 b2 b3 fun c d y o3 l2 hp3 hy => ?_
    obtain ⟨yq, hyf⟩ := fresh_of hy
    obtain ⟨yx, hyf2⟩ := fresh_of hyf
    walk_at "w"
    rename_i t ht
    obtain ⟨ty, htf⟩ := fresh_of ht
    obtain ⟨tq, htf2⟩ := fresh_of htf
    obtain ⟨tx, htf3⟩ := fresh_of htf2
    refine h a b c d x y t o3 _ l l2 hp3 ?_ ?_ ?_ ?_ upd_same
    · exact (((((But.refl q H).pool).new hx).pool).new hy).new ht
    · walk_at "hp"
    · walk_at "hp"
    · walk_at "hp"
theorem use_two2 {q : Addr} {o : HO} {H : Hp} {Q : VK} {E : XK} (h1 : H q = some o) (h2 : IsPool o) (h : ∀ (a b c d : Int) (x y t : Addr) (o' : HO) (H' : Hp), Lo a b → Lo c d → IsPool o' → But q H H' → H' q = some o' → H' x = some (.tup [.int a, .int b]) → H' y = some (.tup [.int c, .int d]) → H' t = some (.tup [.ref x, .ref y]) → Q (.ref t) H') : spTwo2 [.ref q] H Q E := ⟨q, o, rfl, h1, h2, h⟩
theorem eq_pair {x y : Addr} {a b : Int} {H : Hp} {Q : VK} (hx : H x = some (.tup [.int a, .int b])) (hy : H y = some (.tup [.int a, .int b])) (q : Q (.bl true) H) : rEqD K (.ref x) (.ref y) H Q :=
  ⟨.tuple [.int a, .int b], .tuple [.int a, .int b], .tup (SqT.of hx) (.cons (.int _) (.cons (.int _) .nil)), .tup (SqT.of hy) (.cons (.int _) (.cons (.int _) .nil)), rfl, rfl, by
    rw [show PyData.eqv (.tuple [.int a, .int b]) (.tuple [.int a, .int b]) = true by simp [PyData.eqv, PyData.eqvAll]]
    exact q⟩
/-- a told tuple is the ratio that is due -/
def spIs : Sp := fun vs H Q _ => ∃ (t : Addr) (a b p q : Int), vs = [.ref t, .int p, .int q] ∧ H t = some (.tup [.int a, .int b]) ∧ 1 ≤ b ∧ Nat.gcd a.natAbs b.natAbs = 1 ∧ a * q = p * b ∧ a.natAbs < 2 ^ 200 ∧ b.natAbs < 2 ^ 200 ∧ p.natAbs < 2 ^ 200 ∧ q.natAbs < 2 ^ 200 ∧ ∀ H', Same H H' → Q (.bl true) H'
theorem ok_is (T : Txt K mg) : FnOk P w K mg base CX0 2 T.f_is T.fd_is ["_law_told", "_law_top", "_law_bottom"] spIs := by
  have G_whole := ok_whole (P := P) (w := w) (base := base) T
  have G_lowest := ok_lowest (P := P) (w := w) (base := base) T
  refine T.F_is.ok sc_is (fun vs H Q E h => ?_) (fun cdv A outer s H vs Q E hr h => ?_)
  · obtain ⟨t, a, b, p, q, rfl, _⟩ := h
    rfl
  · obtain ⟨t, a, b, p, q, rfl, ht, h1, h2, h3, ha, hb, hp, hq', hq⟩ := h
    refine ⟨_, (pss_cons (ps_if (PW.pt (pw_or (pt_not (pt_val (pe_callB call_isi (by rfl) T.m_isinstance (by decide +kernel) (pa_cons (pv 0) (pa_cons (pe_bltn (v := .ty "tuple") (by rfl) T.m_tuple (by decide +kernel) rfl) pa_nil))))) (pw_or1 (pt_cmpR op_ne (pe_callB call_len_seq (by rfl) T.m_len (by decide +kernel) (pa_cons (pv 0) pa_nil)) pe_int (nomark _))))) (pss_one (ps_ret pe_bl)) pss_nil)
 (pss_cons (ps_if (PW.pt (pw_or (pt_not (pt_val (pe_call G_whole (hr.mono (by decide)) (by rfl) T.g_whole T.F_whole.kp T.b_whole .nil pass0 (pa_cons (pe_ix ix_tup (pv 0) pe_int (fun _ _ => rfl)) pa_nil)))) (pw_or (pt_not (pt_val (pe_call G_whole (hr.mono (by decide)) (by rfl) T.g_whole T.F_whole.kp T.b_whole .nil pass0 (pa_cons (pe_ix ix_tup (pv 0) pe_int (fun _ _ => rfl)) pa_nil)))) (pw_or1 (pt_cmpR op_lt (pe_ix ix_tup (pv 0) pe_int (fun _ _ => rfl)) pe_int (nomark _)))))) (pss_one (ps_ret pe_bl)) pss_nil)
 (pss_one (ps_ret (pe_and (pe_cmpR (op_eqD hr.units) (pe_call G_lowest (hr.mono (by decide)) (by rfl) T.g_lowest T.F_lowest.kp T.b_lowest .nil pass0 (pa_cons (pe_ix ix_tup (pv 0) pe_int (fun _ _ => rfl)) (pa_cons (pe_ix ix_tup (pv 0) pe_int (fun _ _ => rfl)) pa_nil))) (pv 0) (nomark _)) (pe_one (pe_cmpR op_eq (pe_op op_mulW (pe_ix ix_tup (pv 0) pe_int (fun _ _ => rfl)) (pv 2)) (pe_op op_mulW (pv 1) (pe_ix ix_tup (pv 0) pe_int (fun _ _ => rfl))) (nomark _)))))))), ?_⟩
    refine Z.w_start (σ' := [some (.ref t), some (.int p), some (.int q)]) rfl ?_
    walk_at "w"
    refine use_lowest (by omega) ha hb fun t2 ht2 => ?_
    obtain ⟨e1, e2⟩ := low_self h2
    rw [e1, e2]
    walk_at "w"
    refine eq_pair upd_same (by walk_at "hp") ?_
    walk_at "w"
    rw [decide_eq_true h3]
    exact hq _ (by walk_at "same")
theorem use_is {t : Addr} {a b p q : Int} {H : Hp} {Q : VK} {E : XK} (ht : H t = some (.tup [.int a, .int b])) (h1 : 1 ≤ b) (h2 : Nat.gcd a.natAbs b.natAbs = 1) (h3 : a * q = p * b) (ha : a.natAbs < 2 ^ 200) (hb : b.natAbs < 2 ^ 200) (hp : p.natAbs < 2 ^ 200) (hq : q.natAbs < 2 ^ 200) (k : ∀ H', Same H H' → Q (.bl true) H') : spIs [.ref t, .int p, .int q] H Q E := ⟨t, a, b, p, q, rfl, ht, h1, h2, h3, ha, hb, hp, hq, k⟩
def spOrder : Sp := fun vs H Q _ => ∃ (x y : Addr) (a b c d : Int), vs = [.int (cmp4 a b c d), .ref x, .ref y] ∧ H x = some (.tup [.int a, .int b]) ∧ H y = some (.tup [.int c, .int d]) ∧ Lo a b ∧ Lo c d ∧ Q (.bl true) H
theorem ok_order (T : Txt K mg) : FnOk P w K mg base CX0 2 T.f_order T.fd_order ["_law_told", "_law_a", "_law_b"] spOrder := by
  have G_whole := ok_whole (P := P) (w := w) (base := base) T
  refine T.F_order.ok sc_order (fun vs H Q E h => ?_) (fun cdv A outer s H vs Q E hr h => ?_)
  · obtain ⟨x, y, a, b, c, d, rfl, _⟩ := h
    rfl
  · obtain ⟨x, y, a, b, c, d, rfl, hx, hy, ⟨a1, a2, a3, a4, a5⟩, ⟨c1, c2, c3, c4, c5⟩, hq⟩ := h
    have m1 := mb a3 a4 (show -(2 ^ 90 : Int) < d by omega) c2
    have m2 := mb c3 c4 (show -(2 ^ 90 : Int) < b by omega) a2
    refine ⟨_, (pss_cons (ps_set (i := 3) sc_order.nd rfl (.inl rfl) (pe_op op_sub (pe_callTy call_int1 (by rfl) T.m_int (by decide +kernel) (pa_cons (pe_cmpR op_gt (pe_op op_mulW (pe_ix ix_tup (pv 1) pe_int (fun _ _ => rfl)) (pe_ix ix_tup (pv 2) pe_int (fun _ _ => rfl))) (pe_op op_mulW (pe_ix ix_tup (pv 2) pe_int (fun _ _ => rfl)) (pe_ix ix_tup (pv 1) pe_int (fun _ _ => rfl))) (nomark _)) pa_nil)) (pe_callTy call_int1 (by rfl) T.m_int (by decide +kernel) (pa_cons (pe_cmpR op_lt (pe_op op_mulW (pe_ix ix_tup (pv 1) pe_int (fun _ _ => rfl)) (pe_ix ix_tup (pv 2) pe_int (fun _ _ => rfl))) (pe_op op_mulW (pe_ix ix_tup (pv 2) pe_int (fun _ _ => rfl)) (pe_ix ix_tup (pv 1) pe_int (fun _ _ => rfl))) (nomark _)) pa_nil))))
 (pss_one (ps_ret (pe_and (pe_call G_whole (hr.mono (by decide)) (by rfl) T.g_whole T.F_whole.kp T.b_whole .nil pass0 (pa_cons (pv 0) pa_nil)) (pe_one (pe_cmpR op_eq (pv 0) (pv 3) (nomark _))))))), ?_⟩
    refine Z.w_start (σ' := [some (.int (cmp4 a b c d)), some (.ref x), some (.ref y), none]) rfl ?_
    walk_at "w"
    have e : ∀ u v : Int, (if u = v then (0 : Int) else if u < v then -1 else 1) = (if decide (v < u) = true then 1 else 0) - (if decide (u < v) = true then 1 else 0) := fun u v => by
      simp only [decide_eq_true_eq]
      (repeat' split) <;> omega
    rw [show cmp4 a b c d = _ from e _ _, decide_eq_true rfl]
    exact hq
end
end L

namespace L
open PySem PySem.Spec PyProof.Rows L2 Z M X0
section
variable {P : Program} {w : World} {K : PySem.W.Frag} {mg : Str → Option Value} {base : Heap}
def spRefused : Sp := fun vs H Q _ => ∃ (x y : Addr) (a b d k : Int), vs = [.ref x, .ref y, .int k] ∧ H x = some (.tup [.int a, .int b]) ∧ H y = some (.tup [.int 0, .int d]) ∧ Lo a b ∧ Lo 0 d ∧ ∀ H', Same H H' → Q (.bl true) H'
theorem ok_refused (T : Txt K mg) : FnOk P w K mg base CX0 3 T.f_refused T.fd_refused ["_law_a", "_law_b", "_law_how"] spRefused := by
  have G_over := ok_over (P := P) (w := w) (base := base) T
  refine T.F_refused.ok sc_refused (fun vs H Q E h => ?_) (fun cdv A outer s H vs Q E hr h => ?_)
  · obtain ⟨x, y, a, b, d, k, rfl, _⟩ := h
    rfl
  · obtain ⟨x, y, a, b, d, k, rfl, hx, hy, la, ld, h⟩ := h
    refine ⟨_, (pss_cons (ps_if (pt_cmpR op_eq (pv 2) pe_int (nomark _)) (pss_cons (ps_try_only  rfl rfl ⟨rfl, by decide, .inl T.c_BadRatio⟩ takes0 (fun W pn xe tk _ => (pss_one (ps_expr (pe_callS G_over (hr.mono (by decide)) (by rfl) T.g_over T.F_over.kp T.b_over (fun σ => passAt tk σ) (by exact (pa_cons (pv 0) (pa_cons (pv 1) pa_nil))))))) (fun a oe cls d pn _ _ => (pss_one (ps_ret pe_bl))))
 (pss_one (ps_ret pe_bl))) pss_nil)
 (pss_cons (ps_try_as (i := 3)  rfl rfl sc_refused.nd rfl rfl ⟨rfl, by decide, .inl T.c_PaperError⟩ takes0 (fun W pn xe tk _ => (pss_one (ps_expr (pe_callS G_over (hr.mono (by decide)) (by rfl) T.g_over T.F_over.kp T.b_over (fun σ => passAt tk σ) (by exact (pa_cons (pv 0) (pa_cons (pv 1) pa_nil))))))) (fun a oe cls d pn hz hf => (pss_cons (ps_if (pt_val (pe_callB (X0.call_isET hz hf) (by rfl) T.m_isinstance (by decide +kernel) (pa_cons (pv 3) (pa_cons (pe_tup (pa_cons (pe_glob (v := .ref T.C_BadLiteral) (by rfl) T.c_BadLiteral rfl) (pa_cons (pe_glob (v := .ref T.C_BadModel) (by rfl) T.c_BadModel rfl) (pa_cons (pe_glob (v := .ref T.C_BadName) (by rfl) T.c_BadName rfl) (pa_cons (pe_glob (v := .ref T.C_BadNode) (by rfl) T.c_BadNode rfl) (pa_cons (pe_glob (v := .ref T.C_BadSort) (by rfl) T.c_BadSort rfl) (pa_cons (pe_glob (v := .ref T.C_BadText) (by rfl) T.c_BadText rfl) pa_nil))))))) pa_nil)))) (pss_one (ps_ret pe_bl)) pss_nil)
 (pss_cons (ps_if (pt_val (pe_callB (X0.call_isET hz hf) (by rfl) T.m_isinstance (by decide +kernel) (pa_cons (pv 3) (pa_cons (pe_tup (pa_cons (pe_glob (v := .ref T.C_NameTaken) (by rfl) T.c_NameTaken rfl) (pa_cons (pe_glob (v := .ref T.C_NoAnswer) (by rfl) T.c_NoAnswer rfl) (pa_cons (pe_glob (v := .ref T.C_NoLevel) (by rfl) T.c_NoLevel rfl) (pa_cons (pe_glob (v := .ref T.C_UnknownName) (by rfl) T.c_UnknownName rfl) pa_nil))))) pa_nil)))) (pss_one (ps_ret pe_bl)) pss_nil)
 (pss_one (ps_ret (pe_and (pe_callB (X0.call_isE1 hz hf) (by rfl) T.m_isinstance (by decide +kernel) (pa_cons (pv 3) (pa_cons (pe_glob (v := .ref T.C_BadRatio) (by rfl) T.c_BadRatio rfl) pa_nil))) (pe_one (pe_callB (X0.call_isE1 hz hf) (by rfl) T.m_isinstance (by decide +kernel) (pa_cons (pv 3) (pa_cons (pe_bltn (v := .ty "ValueError") (by rfl) T.m_ValueError (by decide +kernel) rfl) pa_nil)))))))))))
 (pss_one (ps_ret pe_bl)))), ?_⟩
    refine Z.w_start (σ' := [some (.ref x), some (.ref y), some (.int k), none]) rfl ?_
    walk_at "w"
    walk_at "wi"
    · walk_at "w"
      refine ⟨x, y, a, b, 0, d, rfl, hx, hy, la, ld, fun _ => ⟨true, T.e_BadRatio_BadRatio, fun _ e he => ?_, fun q => nomatch q⟩, fun hne => absurd (Int.mul_zero b) hne⟩
      walk_at "w"
      exact h _ (Same.refl _)
    · walk_at "w"
      refine ⟨x, y, a, b, 0, d, rfl, hx, hy, la, ld, fun _ => ⟨true, T.e_BadRatio_PaperError, fun _ e he => ?_, fun q => nomatch q⟩, fun hne => absurd (Int.mul_zero b) hne⟩
      refine Z.w_start (σ' := [some (.ref x), some (.ref y), some (.int k), some (.ref e)]) rfl ?_
      walk_at "w"
      refine w_isET T.x_BadRatio (by walk_at "hp") (by repeat constructor) T.i_1 ?_
      walk_at "w"
      refine w_isET T.x_BadRatio (by walk_at "hp") (by repeat constructor) T.i_2 ?_
      walk_at "w"
      refine w_isE1 T.x_BadRatio (.own _) T.i_3 ?_
      walk_at "w"
      refine w_isE1 T.x_BadRatio (.ty _) T.i_4 ?_
      exact h _ (by walk_at "same")
def spAll : Sp := fun vs H Q _ => ∃ (x y : Addr) (a b c d k : Int), vs = [.ref x, .ref y, .int k] ∧ H x = some (.tup [.int a, .int b]) ∧ H y = some (.tup [.int c, .int d]) ∧ Lo a b ∧ Lo c d ∧ ∀ H', Same H H' → Q (.bl true) H'
theorem ok_all (T : Txt K mg) : FnOk P w K mg base CX0 4 T.f_all T.fd_all ["_law_a", "_law_b", "_law_how"] spAll := by
  have G_plus := ok_plus (P := P) (w := w) (base := base) T
  have G_minus := ok_minus (P := P) (w := w) (base := base) T
  have G_times := ok_times (P := P) (w := w) (base := base) T
  have G_over := ok_over (P := P) (w := w) (base := base) T
  have G_opposite := ok_opposite (P := P) (w := w) (base := base) T
  have G_compare := ok_compare (P := P) (w := w) (base := base) T
  have G_is := ok_is (P := P) (w := w) (base := base) T
  have G_order := ok_order (P := P) (w := w) (base := base) T
  have G_refused := ok_refused (P := P) (w := w) (base := base) T
  refine T.F_all.ok sc_all (fun vs H Q E h => ?_) (fun cdv A outer s H vs Q E hr h => ?_)
  · obtain ⟨x, y, a, b, c, d, k, rfl, _⟩ := h
    rfl
  · obtain ⟨x, y, a, b, c, d, k, rfl, hx, hy, la, lc, hq⟩ := h
    obtain ⟨a1, a2, a3, a4, a5⟩ := id la
    obtain ⟨c1, c2, c3, c4, c5⟩ := id lc
    have m1 := mb a3 a4 (show -(2 ^ 90 : Int) < d by omega) c2
    have m2 := mb c3 c4 (show -(2 ^ 90 : Int) < b by omega) a2
    have m3 := mb (show -(2 ^ 90 : Int) < b by omega) a2 (show -(2 ^ 90 : Int) < d by omega) c2
    have m4 := mb a3 a4 c3 c4
    have m5 := mb (show -(2 ^ 90 : Int) < b by omega) a2 c3 c4
    have n3 : b * d ≠ 0 := Int.mul_ne_zero (by omega) (by omega)
    refine ⟨_, (pss_cons (ps_if (pt_not (pt_val (pe_call G_is (hr.mono (by decide)) (by rfl) T.g_is T.F_is.kp T.b_is .nil pass0 (pa_cons (pe_call G_plus (hr.mono (by decide)) (by rfl) T.g_plus T.F_plus.kp T.b_plus .nil pass0 (pa_cons (pv 0) (pa_cons (pv 1) pa_nil))) (pa_cons (pe_op op_add (pe_op op_mulW (pe_ix ix_tup (pv 0) pe_int (fun _ _ => rfl)) (pe_ix ix_tup (pv 1) pe_int (fun _ _ => rfl))) (pe_op op_mulW (pe_ix ix_tup (pv 1) pe_int (fun _ _ => rfl)) (pe_ix ix_tup (pv 0) pe_int (fun _ _ => rfl)))) (pa_cons (pe_op op_mulW (pe_ix ix_tup (pv 0) pe_int (fun _ _ => rfl)) (pe_ix ix_tup (pv 1) pe_int (fun _ _ => rfl))) pa_nil)))))) (pss_one (ps_ret pe_bl)) pss_nil)
 (pss_cons (ps_if (pt_not (pt_val (pe_call G_is (hr.mono (by decide)) (by rfl) T.g_is T.F_is.kp T.b_is .nil pass0 (pa_cons (pe_call G_minus (hr.mono (by decide)) (by rfl) T.g_minus T.F_minus.kp T.b_minus .nil pass0 (pa_cons (pv 0) (pa_cons (pv 1) pa_nil))) (pa_cons (pe_op op_sub (pe_op op_mulW (pe_ix ix_tup (pv 0) pe_int (fun _ _ => rfl)) (pe_ix ix_tup (pv 1) pe_int (fun _ _ => rfl))) (pe_op op_mulW (pe_ix ix_tup (pv 1) pe_int (fun _ _ => rfl)) (pe_ix ix_tup (pv 0) pe_int (fun _ _ => rfl)))) (pa_cons (pe_op op_mulW (pe_ix ix_tup (pv 0) pe_int (fun _ _ => rfl)) (pe_ix ix_tup (pv 1) pe_int (fun _ _ => rfl))) pa_nil)))))) (pss_one (ps_ret pe_bl)) pss_nil)
 (pss_cons (ps_if (pt_not (pt_val (pe_call G_is (hr.mono (by decide)) (by rfl) T.g_is T.F_is.kp T.b_is .nil pass0 (pa_cons (pe_call G_times (hr.mono (by decide)) (by rfl) T.g_times T.F_times.kp T.b_times .nil pass0 (pa_cons (pv 0) (pa_cons (pv 1) pa_nil))) (pa_cons (pe_op op_mulW (pe_ix ix_tup (pv 0) pe_int (fun _ _ => rfl)) (pe_ix ix_tup (pv 1) pe_int (fun _ _ => rfl))) (pa_cons (pe_op op_mulW (pe_ix ix_tup (pv 0) pe_int (fun _ _ => rfl)) (pe_ix ix_tup (pv 1) pe_int (fun _ _ => rfl))) pa_nil)))))) (pss_one (ps_ret pe_bl)) pss_nil)
 (pss_cons (ps_if (PW.pt (pw_and (pt_cmpR op_eq (pe_ix ix_tup (pv 1) pe_int (fun _ _ => rfl)) pe_int (nomark _)) (pw_and1 (pt_not (pt_val (pe_call G_refused (hr.mono (by decide)) (by rfl) T.g_refused T.F_refused.kp T.b_refused .nil pass0 (pa_cons (pv 0) (pa_cons (pv 1) (pa_cons (pv 2) pa_nil))))))))) (pss_one (ps_ret pe_bl)) pss_nil)
 (pss_cons (ps_if (PW.pt (pw_and (pt_cmpR op_ne (pe_ix ix_tup (pv 1) pe_int (fun _ _ => rfl)) pe_int (nomark _)) (pw_and1 (pt_not (pt_val (pe_call G_is (hr.mono (by decide)) (by rfl) T.g_is T.F_is.kp T.b_is .nil pass0 (pa_cons (pe_call G_over (hr.mono (by decide)) (by rfl) T.g_over T.F_over.kp T.b_over .nil passL (pa_cons (pv 0) (pa_cons (pv 1) pa_nil))) (pa_cons (pe_op op_mulW (pe_ix ix_tup (pv 0) pe_int (fun _ _ => rfl)) (pe_ix ix_tup (pv 1) pe_int (fun _ _ => rfl))) (pa_cons (pe_op op_mulW (pe_ix ix_tup (pv 0) pe_int (fun _ _ => rfl)) (pe_ix ix_tup (pv 1) pe_int (fun _ _ => rfl))) pa_nil))))))))) (pss_one (ps_ret pe_bl)) pss_nil)
 (pss_one (ps_ret (pe_and (pe_call G_is (hr.mono (by decide)) (by rfl) T.g_is T.F_is.kp T.b_is .nil pass0 (pa_cons (pe_call G_opposite (hr.mono (by decide)) (by rfl) T.g_opposite T.F_opposite.kp T.b_opposite .nil pass0 (pa_cons (pv 0) pa_nil)) (pa_cons (pe_un un_neg (pe_ix ix_tup (pv 0) pe_int (fun _ _ => rfl))) (pa_cons (pe_ix ix_tup (pv 0) pe_int (fun _ _ => rfl)) pa_nil)))) (pe_one (pe_call G_order (hr.mono (by decide)) (by rfl) T.g_order T.F_order.kp T.b_order .nil pass0 (pa_cons (pe_call G_compare (hr.mono (by decide)) (by rfl) T.g_compare T.F_compare.kp T.b_compare .nil pass0 (pa_cons (pv 0) (pa_cons (pv 1) pa_nil))) (pa_cons (pv 0) (pa_cons (pv 1) pa_nil))))))))))))), ?_⟩
    refine Z.w_start (σ' := [some (.ref x), some (.ref y), some (.int k)]) rfl ?_
    walk_at "w"
    refine ⟨x, y, a, b, c, d, rfl, hx, hy, la, lc, n3, fun p q t hr ht => ?_⟩
    walk_at "w"
    obtain ⟨r1, r2, r3, r4, r5⟩ := hr
    dsimp only at r3 r4 r5
    refine use_is upd_same r1 r2 r3 (by omega) (by omega) (by omega) (by omega) fun H1 s1 => ?_
    clear r1 r2 r3 r4 r5
    have sA : Same H H1 := Same.trans (by walk_at "same") s1
    have hx1 := sA _ _ hx
    have hy1 := sA _ _ hy
    walk_at "w"
    refine ⟨x, y, a, b, c, d, rfl, hx1, hy1, la, lc, n3, fun p q t hr ht => ?_⟩
    walk_at "w"
    obtain ⟨r1, r2, r3, r4, r5⟩ := hr
    dsimp only at r3 r4 r5
    refine use_is upd_same r1 r2 r3 (by omega) (by omega) (by omega) (by omega) fun H2 s2 => ?_
    clear r1 r2 r3 r4 r5
    have sB : Same H1 H2 := Same.trans (by walk_at "same") s2
    have hx2 := sB _ _ hx1
    have hy2 := sB _ _ hy1
    walk_at "w"
    refine ⟨x, y, a, b, c, d, rfl, hx2, hy2, la, lc, n3, fun p q t hr ht => ?_⟩
    walk_at "w"
    obtain ⟨r1, r2, r3, r4, r5⟩ := hr
    dsimp only at r3 r4 r5
    refine use_is upd_same r1 r2 r3 (by omega) (by omega) (by omega) (by omega) fun H3 s3 => ?_
    clear r1 r2 r3 r4 r5
    have sC : Same H2 H3 := Same.trans (by walk_at "same") s3
    have hx3 := sC _ _ hx2
    have hy3 := sC _ _ hy2
    have sH : Same H H3 := sA.trans (sB.trans sC)
    walk_at "w"
    walk_at "wi"
    · rename_i c0
      subst c0
      walk_at "w"
      refine ⟨x, y, a, b, d, k, rfl, hx3, hy3, la, lc, fun H4 s4 => ?_⟩
      have hx4 := s4 _ _ hx3
      have hy4 := s4 _ _ hy3
      walk_at "w"
      refine ⟨x, a, b, rfl, hx4, fun t ht => ?_⟩
      walk_at "w"
      refine use_is upd_same a1 (by rw [Int.natAbs_neg]; exact a5) rfl (by omega) (by omega) (by omega) (by omega) fun H5 s5 => ?_
      have sE : Same H4 H5 := Same.trans (by walk_at "same") s5
      have hx5 := sE _ _ hx4
      have hy5 := sE _ _ hy4
      walk_at "w"
      refine ⟨x, y, a, b, 0, d, rfl, hx5, hy5, la, lc, ?_⟩
      walk_at "w"
      exact ⟨x, y, a, b, 0, d, rfl, hx5, hy5, la, lc, hq _ (sH.trans (s4.trans sE))⟩
    · walk_at "w"
      refine ⟨x, y, a, b, c, d, rfl, hx3, hy3, la, lc, fun z => absurd z (Int.mul_ne_zero (by omega) (by omega)), fun _ p q t hr ht => ?_⟩
      walk_at "w"
      obtain ⟨r1, r2, r3, r4, r5⟩ := hr
      refine use_is upd_same r1 r2 r3 (by omega) (by omega) (by omega) (by omega) fun H4 s4' => ?_
      clear r1 r2 r3 r4 r5
      have s4 : Same H3 H4 := Same.trans (by walk_at "same") s4'
      have hx4 := s4 _ _ hx3
      have hy4 := s4 _ _ hy3
      walk_at "w"
      refine ⟨x, a, b, rfl, hx4, fun t ht => ?_⟩
      walk_at "w"
      refine use_is upd_same a1 (by rw [Int.natAbs_neg]; exact a5) rfl (by omega) (by omega) (by omega) (by omega) fun H5 s5 => ?_
      have sE : Same H4 H5 := Same.trans (by walk_at "same") s5
      have hx5 := sE _ _ hx4
      have hy5 := sE _ _ hy4
      walk_at "w"
      refine ⟨x, y, a, b, c, d, rfl, hx5, hy5, la, lc, ?_⟩
      walk_at "w"
      exact ⟨x, y, a, b, c, d, rfl, hx5, hy5, la, lc, hq _ (sH.trans (s4.trans sE))⟩
theorem use_all {x y : Addr} {a b c d k : Int} {H : Hp} {Q : VK} {E : XK} (h1 : H x = some (.tup [.int a, .int b])) (h2 : H y = some (.tup [.int c, .int d])) (h3 : Lo a b) (h4 : Lo c d) (h : ∀ H', Same H H' → Q (.bl true) H') : spAll [.ref x, .ref y, .int k] H Q E := ⟨x, y, a, b, c, d, k, rfl, h1, h2, h3, h4, h⟩
theorem use_pool {a : Addr} {ns : List Int} {k : Int} {H : Hp} {Q : VK} {E : XK} (hS : SqL K H a (ns.map V.int)) (hl : ns.length ≤ 1000) (h0 : 0 ≤ k) (h1 : k < 2 ^ 62) (h : ∀ q o, H q = none → IsPool o → Q (.ref q) (upd H q o)) : spPool K [.ref a, .int k] H Q E := ⟨a, ns, k, rfl, hS, hl, h0, h1, h⟩
def spLaw (K : PySem.W.Frag) : Sp := fun vs H Q _ => ∃ (a : Addr) (ns : List Int), vs = [.ref a] ∧ SqL K H a (ns.map V.int) ∧ ns.length ≤ 63 ∧ ∀ H', Q (.bl true) H'
theorem ok_law (T : Txt K mg) : FnOk P w K mg base CX0 6 T.f_law T.fd_law ["_law_script"] (spLaw K) := by
  have G_pool := ok_pool (P := P) (w := w) (base := base) T
  have G_take := ok_take (P := P) (w := w) (base := base) T
  have G_two := ok_two (P := P) (w := w) (base := base) T
  have G_all := ok_all (P := P) (w := w) (base := base) T
  refine T.F_law.ok sc_law (fun vs H Q E h => ?_) (fun cdv A outer s H vs Q E hr h => ?_)
  · obtain ⟨a, ns, rfl, _⟩ := h
    rfl
  · obtain ⟨a, ns, rfl, hS, hl, h⟩ := h
    refine ⟨_, (pss_cons (ps_for PassesOwn.never rfl (pi_range1 (by rfl) T.m_range (pa_cons (pe_callB (call_max2 rfl) (by rfl) T.m_max (by decide +kernel) (pa_cons pe_int (pa_cons (pe_callB (call_min2 rfl) (by rfl) T.m_min (by decide +kernel) (pa_cons pe_int (pa_cons (pe_callB call_len_seq (by rfl) T.m_len (by decide +kernel) (pa_cons (pv 0) pa_nil)) pa_nil))) pa_nil))) pa_nil)) (pg_name (i := 1) sc_law.nd rfl (.inl rfl)) (pss_cons (ps_set (i := 2) sc_law.nd rfl (.inl rfl) (pe_call G_pool (hr.mono (by decide)) (by rfl) T.g_pool T.F_pool.kp T.b_pool .nil pass0 (pa_cons (pv 0) (pa_cons (pv 1) pa_nil))))
 (pss_cons (ps_asg (pe_call G_two (hr.mono (by decide)) (by rfl) T.g_two T.F_two.kp T.b_two .nil pass0 (pa_cons (pv 2) pa_nil)) (pg_tup (by rfl) (pgs_cons (pg_name (i := 4) sc_law.nd rfl (.inl rfl)) (pgs_cons (pg_name (i := 5) sc_law.nd rfl (.inl rfl)) pgs_nil))))
 (pss_cons (ps_set (i := 3) sc_law.nd rfl (.inl rfl) (pe_call G_take (hr.mono (by decide)) (by rfl) T.g_take T.F_take.kp T.b_take .nil pass0 (pa_cons (pv 2) (pa_cons pe_int pa_nil))))
 (pss_cons (ps_if (PW.pt (pw_or (pt_not (pt_val (pe_call G_all (hr.mono (by decide)) (by rfl) T.g_all T.F_all.kp T.b_all .nil pass0 (pa_cons (pv 4) (pa_cons (pv 5) (pa_cons (pv 3) pa_nil)))))) (pw_or1 (pt_not (pt_val (pe_call G_all (hr.mono (by decide)) (by rfl) T.g_all T.F_all.kp T.b_all .nil pass0 (pa_cons (pv 5) (pa_cons (pv 4) (pa_cons (pe_op op_sub pe_int (pv 3)) pa_nil))))))))) (pss_one (ps_ret pe_bl)) pss_nil)
 (pss_one (ps_if (PW.pt (pw_or (pt_not (pt_val (pe_call G_all (hr.mono (by decide)) (by rfl) T.g_all T.F_all.kp T.b_all .nil pass0 (pa_cons (pv 4) (pa_cons (pv 4) (pa_cons (pv 3) pa_nil)))))) (pw_or1 (pt_not (pt_val (pe_call G_all (hr.mono (by decide)) (by rfl) T.g_all T.F_all.kp T.b_all .nil pass0 (pa_cons (pv 4) (pa_cons (pv 5) (pa_cons (pe_op op_sub pe_int (pv 3)) pa_nil))))))))) (pss_one (ps_ret pe_bl)) pss_nil)))))))
 (pss_one (ps_ret pe_bl))), ?_⟩
    refine Z.w_start (σ' := [some (.ref a), none, none, none, none, none]) rfl ?_
    walk_at "w"
    refine ⟨by walk_at "sz", by walk_at "sz", ?_⟩
    refine for_range (lo := 0) (n := _) (fun i σ H' => ∃ (x1 x2 x3 x4 x5 : Option V), σ = [some (.ref a), x1, x2, x3, x4, x5] ∧ Same H H') ?_ ?_ ?_
    · exact ⟨_, _, _, _, _, rfl, Same.refl _⟩
    · rintro i σ H' hi ⟨x1, x2, x3, x4, x5, rfl, sm⟩
      have hS' := sm.seq hS
      have h8 : i < 8 := by
        revert hi
        walk_at "sz"
      walk_at "w"
      refine use_pool hS' (by omega) (by omega) (by omega) fun q o hq1 hp1 => ?_
      have hqH : H q = none := sm.free hq1
      walk_at "w"
      refine use_two2 upd_same hp1 fun a1 b1 a2 b2 x y t o2 H2 l1 l2 hp2 bt hq2 hx hy ht => ?_
      walk_at "w"
      have hxq : x ≠ q := fun e => by
        obtain ⟨_, _, _, _, z⟩ := hp2
        rw [e, hq2, z] at hx
        cases hx
      have hyq : y ≠ q := fun e => by
        obtain ⟨_, _, _, _, z⟩ := hp2
        rw [e, hq2, z] at hy
        cases hy
      refine use_all (by walk_at "hp") (by walk_at "hp") l1 l2 fun H3 s3 => ?_
      have hx3 := s3 x _ (by walk_at "hp")
      have hy3 := s3 y _ (by walk_at "hp")
      walk_at "w"
      refine use_all hy3 hx3 l2 l1 fun H4 s4 => ?_
      have hx4 := s4 _ _ hx3
      have hy4 := s4 _ _ hy3
      walk_at "w"
      refine use_all hx4 hx4 l1 l1 fun H5 s5 => ?_
      have hx5 := s5 _ _ hx4
      have hy5 := s5 _ _ hy4
      walk_at "w"
      refine use_all hx5 hy5 l1 l2 fun H6 s6 => ?_
      walk_at "w"
      have sb : Same H' H2 := ((But.refl q H').pool.trans bt).toSame hq1
      refine ⟨_, _, _, _, _, rfl, sm.trans ((same_mut sb hq1).trans (s3.trans (s4.trans (s5.trans s6))))⟩
    · rintro σ H' ⟨x1, x2, x3, x4, x5, rfl, sm⟩
      walk_at "w"
      exact h _
end
end L

namespace L
open PySem PySem.Spec PyProof.Rows L2 Z X0
theorem all_mk {l : PySem.W.OpenLaw} {w : World} {K : PySem.W.Frag} {h : Heap} {mg : Str → Option Value} {fa : Addr} (X : K.In h) (G : h.Ns mainGlobals mg) (hfa : mg "law" = some (.ref fa))
    {f_ratio : Addr} {od_ratio an_ratio : Option Addr} {sl_ratio : Array (Option Value)} {oc_ratio kV_ratio dc_ratio pm_ratio cd_ratio ct_ratio  : Value}
    {T_ratio : Addr} {cT_ratio : Value} {dT_ratio : Option Addr} {lT_ratio : Array (Option Value)} {nT_ratio : Nat} {u_tok : Tok}
    {f_plus : Addr} {od_plus an_plus : Option Addr} {sl_plus : Array (Option Value)} {oc_plus kV_plus dc_plus pm_plus cd_plus ct_plus  : Value}
    {f_minus : Addr} {od_minus an_minus : Option Addr} {sl_minus : Array (Option Value)} {oc_minus kV_minus dc_minus pm_minus cd_minus ct_minus  : Value}
    {f_times : Addr} {od_times an_times : Option Addr} {sl_times : Array (Option Value)} {oc_times kV_times dc_times pm_times cd_times ct_times  : Value}
    {f_over : Addr} {od_over an_over : Option Addr} {sl_over : Array (Option Value)} {oc_over kV_over dc_over pm_over cd_over ct_over  : Value}
    {f_opposite : Addr} {od_opposite an_opposite : Option Addr} {sl_opposite : Array (Option Value)} {oc_opposite kV_opposite dc_opposite pm_opposite cd_opposite ct_opposite  : Value}
    {f_compare : Addr} {od_compare an_compare : Option Addr} {sl_compare : Array (Option Value)} {oc_compare kV_compare dc_compare pm_compare cd_compare ct_compare  : Value}
    {f_pool : Addr} {od_pool an_pool : Option Addr} {sl_pool : Array (Option Value)} {oc_pool kV_pool dc_pool pm_pool cd_pool ct_pool  : Value}
    {f_take : Addr} {od_take an_take : Option Addr} {sl_take : Array (Option Value)} {oc_take kV_take dc_take pm_take cd_take ct_take  : Value}
    {f_whole : Addr} {od_whole an_whole : Option Addr} {sl_whole : Array (Option Value)} {oc_whole kV_whole dc_whole pm_whole cd_whole ct_whole  : Value}
    {f_sized : Addr} {od_sized an_sized : Option Addr} {sl_sized : Array (Option Value)} {oc_sized kV_sized dc_sized pm_sized cd_sized ct_sized  : Value}
    {f_lowest : Addr} {od_lowest an_lowest : Option Addr} {sl_lowest : Array (Option Value)} {oc_lowest kV_lowest dc_lowest pm_lowest cd_lowest ct_lowest  : Value}
    {f_Lratio : Addr} {od_Lratio an_Lratio : Option Addr} {sl_Lratio : Array (Option Value)} {oc_Lratio kV_Lratio dc_Lratio pm_Lratio cd_Lratio ct_Lratio  : Value}
    {f_second : Addr} {od_second an_second : Option Addr} {sl_second : Array (Option Value)} {oc_second kV_second dc_second pm_second cd_second ct_second  : Value}
    {f_two : Addr} {od_two an_two : Option Addr} {sl_two : Array (Option Value)} {oc_two kV_two dc_two pm_two cd_two ct_two  : Value}
    {f_is : Addr} {od_is an_is : Option Addr} {sl_is : Array (Option Value)} {oc_is kV_is dc_is pm_is cd_is ct_is  : Value}
    {f_order : Addr} {od_order an_order : Option Addr} {sl_order : Array (Option Value)} {oc_order kV_order dc_order pm_order cd_order ct_order  : Value}
    {f_refused : Addr} {od_refused an_refused : Option Addr} {sl_refused : Array (Option Value)} {oc_refused kV_refused dc_refused pm_refused cd_refused ct_refused  : Value}
    {f_all : Addr} {od_all an_all : Option Addr} {sl_all : Array (Option Value)} {oc_all kV_all dc_all pm_all cd_all ct_all  : Value}
    {f_law : Addr} {od_law an_law : Option Addr} {sl_law : Array (Option Value)} {oc_law kV_law dc_law pm_law cd_law ct_law  : Value}
    {C_BadRatio : Addr}
    {C_PaperError : Addr}
    {C_BadLiteral : Addr}
    {C_BadModel : Addr}
    {C_BadName : Addr}
    {C_BadNode : Addr}
    {C_BadSort : Addr}
    {C_BadText : Addr}
    {C_NameTaken : Addr}
    {C_NoAnswer : Addr}
    {C_NoLevel : Addr}
    {C_UnknownName : Addr}
    (a_ratio : PySem.W.nsIn K mainGlobals "ratio" = some (some (.ref f_ratio)))
    (l_ratio : K.lookup f_ratio = some ⟨oc_ratio, od_ratio, .func (PySem.W.fnOf "ratio" "ratio" (defArgs s_ratio) (defBody s_ratio) (defScope s_ratio) (.ref T_ratio) kV_ratio dc_ratio pm_ratio an_ratio cd_ratio ct_ratio), sl_ratio⟩)
    (c_ratio : PySem.W.codeIn K cd_ratio "ratio" = true)
    (k_ratio : PySem.W.keepIn K (.ref f_ratio) = true)
    (t_ratio : K.lookup T_ratio = some ⟨cT_ratio, dT_ratio, .seq #[.int 1 u_tok] nT_ratio, lT_ratio⟩)
    (a_plus : PySem.W.nsIn K mainGlobals "plus" = some (some (.ref f_plus)))
    (l_plus : K.lookup f_plus = some ⟨oc_plus, od_plus, .func (PySem.W.fnOf "plus" "plus" (defArgs s_plus) (defBody s_plus) (defScope s_plus) .none kV_plus dc_plus pm_plus an_plus cd_plus ct_plus), sl_plus⟩)
    (c_plus : PySem.W.codeIn K cd_plus "plus" = true)
    (k_plus : PySem.W.keepIn K (.ref f_plus) = true)
    (a_minus : PySem.W.nsIn K mainGlobals "minus" = some (some (.ref f_minus)))
    (l_minus : K.lookup f_minus = some ⟨oc_minus, od_minus, .func (PySem.W.fnOf "minus" "minus" (defArgs s_minus) (defBody s_minus) (defScope s_minus) .none kV_minus dc_minus pm_minus an_minus cd_minus ct_minus), sl_minus⟩)
    (c_minus : PySem.W.codeIn K cd_minus "minus" = true)
    (k_minus : PySem.W.keepIn K (.ref f_minus) = true)
    (a_times : PySem.W.nsIn K mainGlobals "times" = some (some (.ref f_times)))
    (l_times : K.lookup f_times = some ⟨oc_times, od_times, .func (PySem.W.fnOf "times" "times" (defArgs s_times) (defBody s_times) (defScope s_times) .none kV_times dc_times pm_times an_times cd_times ct_times), sl_times⟩)
    (c_times : PySem.W.codeIn K cd_times "times" = true)
    (k_times : PySem.W.keepIn K (.ref f_times) = true)
    (a_over : PySem.W.nsIn K mainGlobals "over" = some (some (.ref f_over)))
    (l_over : K.lookup f_over = some ⟨oc_over, od_over, .func (PySem.W.fnOf "over" "over" (defArgs s_over) (defBody s_over) (defScope s_over) .none kV_over dc_over pm_over an_over cd_over ct_over), sl_over⟩)
    (c_over : PySem.W.codeIn K cd_over "over" = true)
    (k_over : PySem.W.keepIn K (.ref f_over) = true)
    (a_opposite : PySem.W.nsIn K mainGlobals "opposite" = some (some (.ref f_opposite)))
    (l_opposite : K.lookup f_opposite = some ⟨oc_opposite, od_opposite, .func (PySem.W.fnOf "opposite" "opposite" (defArgs s_opposite) (defBody s_opposite) (defScope s_opposite) .none kV_opposite dc_opposite pm_opposite an_opposite cd_opposite ct_opposite), sl_opposite⟩)
    (c_opposite : PySem.W.codeIn K cd_opposite "opposite" = true)
    (k_opposite : PySem.W.keepIn K (.ref f_opposite) = true)
    (a_compare : PySem.W.nsIn K mainGlobals "compare" = some (some (.ref f_compare)))
    (l_compare : K.lookup f_compare = some ⟨oc_compare, od_compare, .func (PySem.W.fnOf "compare" "compare" (defArgs s_compare) (defBody s_compare) (defScope s_compare) .none kV_compare dc_compare pm_compare an_compare cd_compare ct_compare), sl_compare⟩)
    (c_compare : PySem.W.codeIn K cd_compare "compare" = true)
    (k_compare : PySem.W.keepIn K (.ref f_compare) = true)
    (a_pool : PySem.W.nsIn K mainGlobals "_law_pool" = some (some (.ref f_pool)))
    (l_pool : K.lookup f_pool = some ⟨oc_pool, od_pool, .func (PySem.W.fnOf "_law_pool" "_law_pool" (defArgs s_pool) (defBody s_pool) (defScope s_pool) .none kV_pool dc_pool pm_pool an_pool cd_pool ct_pool), sl_pool⟩)
    (c_pool : PySem.W.codeIn K cd_pool "_law_pool" = true)
    (k_pool : PySem.W.keepIn K (.ref f_pool) = true)
    (a_take : PySem.W.nsIn K mainGlobals "_law_take" = some (some (.ref f_take)))
    (l_take : K.lookup f_take = some ⟨oc_take, od_take, .func (PySem.W.fnOf "_law_take" "_law_take" (defArgs s_take) (defBody s_take) (defScope s_take) .none kV_take dc_take pm_take an_take cd_take ct_take), sl_take⟩)
    (c_take : PySem.W.codeIn K cd_take "_law_take" = true)
    (k_take : PySem.W.keepIn K (.ref f_take) = true)
    (a_whole : PySem.W.nsIn K mainGlobals "_law_whole" = some (some (.ref f_whole)))
    (l_whole : K.lookup f_whole = some ⟨oc_whole, od_whole, .func (PySem.W.fnOf "_law_whole" "_law_whole" (defArgs s_whole) (defBody s_whole) (defScope s_whole) .none kV_whole dc_whole pm_whole an_whole cd_whole ct_whole), sl_whole⟩)
    (c_whole : PySem.W.codeIn K cd_whole "_law_whole" = true)
    (k_whole : PySem.W.keepIn K (.ref f_whole) = true)
    (a_sized : PySem.W.nsIn K mainGlobals "_law_sized" = some (some (.ref f_sized)))
    (l_sized : K.lookup f_sized = some ⟨oc_sized, od_sized, .func (PySem.W.fnOf "_law_sized" "_law_sized" (defArgs s_sized) (defBody s_sized) (defScope s_sized) .none kV_sized dc_sized pm_sized an_sized cd_sized ct_sized), sl_sized⟩)
    (c_sized : PySem.W.codeIn K cd_sized "_law_sized" = true)
    (k_sized : PySem.W.keepIn K (.ref f_sized) = true)
    (a_lowest : PySem.W.nsIn K mainGlobals "_law_lowest" = some (some (.ref f_lowest)))
    (l_lowest : K.lookup f_lowest = some ⟨oc_lowest, od_lowest, .func (PySem.W.fnOf "_law_lowest" "_law_lowest" (defArgs s_lowest) (defBody s_lowest) (defScope s_lowest) .none kV_lowest dc_lowest pm_lowest an_lowest cd_lowest ct_lowest), sl_lowest⟩)
    (c_lowest : PySem.W.codeIn K cd_lowest "_law_lowest" = true)
    (k_lowest : PySem.W.keepIn K (.ref f_lowest) = true)
    (a_Lratio : PySem.W.nsIn K mainGlobals "_law_ratio" = some (some (.ref f_Lratio)))
    (l_Lratio : K.lookup f_Lratio = some ⟨oc_Lratio, od_Lratio, .func (PySem.W.fnOf "_law_ratio" "_law_ratio" (defArgs s_Lratio) (defBody s_Lratio) (defScope s_Lratio) .none kV_Lratio dc_Lratio pm_Lratio an_Lratio cd_Lratio ct_Lratio), sl_Lratio⟩)
    (c_Lratio : PySem.W.codeIn K cd_Lratio "_law_ratio" = true)
    (k_Lratio : PySem.W.keepIn K (.ref f_Lratio) = true)
    (a_second : PySem.W.nsIn K mainGlobals "_law_second" = some (some (.ref f_second)))
    (l_second : K.lookup f_second = some ⟨oc_second, od_second, .func (PySem.W.fnOf "_law_second" "_law_second" (defArgs s_second) (defBody s_second) (defScope s_second) .none kV_second dc_second pm_second an_second cd_second ct_second), sl_second⟩)
    (c_second : PySem.W.codeIn K cd_second "_law_second" = true)
    (k_second : PySem.W.keepIn K (.ref f_second) = true)
    (a_two : PySem.W.nsIn K mainGlobals "_law_two" = some (some (.ref f_two)))
    (l_two : K.lookup f_two = some ⟨oc_two, od_two, .func (PySem.W.fnOf "_law_two" "_law_two" (defArgs s_two) (defBody s_two) (defScope s_two) .none kV_two dc_two pm_two an_two cd_two ct_two), sl_two⟩)
    (c_two : PySem.W.codeIn K cd_two "_law_two" = true)
    (k_two : PySem.W.keepIn K (.ref f_two) = true)
    (a_is : PySem.W.nsIn K mainGlobals "_law_is" = some (some (.ref f_is)))
    (l_is : K.lookup f_is = some ⟨oc_is, od_is, .func (PySem.W.fnOf "_law_is" "_law_is" (defArgs s_is) (defBody s_is) (defScope s_is) .none kV_is dc_is pm_is an_is cd_is ct_is), sl_is⟩)
    (c_is : PySem.W.codeIn K cd_is "_law_is" = true)
    (k_is : PySem.W.keepIn K (.ref f_is) = true)
    (a_order : PySem.W.nsIn K mainGlobals "_law_order" = some (some (.ref f_order)))
    (l_order : K.lookup f_order = some ⟨oc_order, od_order, .func (PySem.W.fnOf "_law_order" "_law_order" (defArgs s_order) (defBody s_order) (defScope s_order) .none kV_order dc_order pm_order an_order cd_order ct_order), sl_order⟩)
    (c_order : PySem.W.codeIn K cd_order "_law_order" = true)
    (k_order : PySem.W.keepIn K (.ref f_order) = true)
    (a_refused : PySem.W.nsIn K mainGlobals "_law_refused" = some (some (.ref f_refused)))
    (l_refused : K.lookup f_refused = some ⟨oc_refused, od_refused, .func (PySem.W.fnOf "_law_refused" "_law_refused" (defArgs s_refused) (defBody s_refused) (defScope s_refused) .none kV_refused dc_refused pm_refused an_refused cd_refused ct_refused), sl_refused⟩)
    (c_refused : PySem.W.codeIn K cd_refused "_law_refused" = true)
    (k_refused : PySem.W.keepIn K (.ref f_refused) = true)
    (a_all : PySem.W.nsIn K mainGlobals "_law_all" = some (some (.ref f_all)))
    (l_all : K.lookup f_all = some ⟨oc_all, od_all, .func (PySem.W.fnOf "_law_all" "_law_all" (defArgs s_all) (defBody s_all) (defScope s_all) .none kV_all dc_all pm_all an_all cd_all ct_all), sl_all⟩)
    (c_all : PySem.W.codeIn K cd_all "_law_all" = true)
    (k_all : PySem.W.keepIn K (.ref f_all) = true)
    (a_law : PySem.W.nsIn K mainGlobals "law" = some (some (.ref f_law)))
    (l_law : K.lookup f_law = some ⟨oc_law, od_law, .func (PySem.W.fnOf "law" "law" (defArgs s_law) (defBody s_law) (defScope s_law) .none kV_law dc_law pm_law an_law cd_law ct_law), sl_law⟩)
    (c_law : PySem.W.codeIn K cd_law "law" = true)
    (k_law : PySem.W.keepIn K (.ref f_law) = true)
    (m_len : PySem.W.nsIn K mainGlobals "len" = some none)
    (m_int : PySem.W.nsIn K mainGlobals "int" = some none)
    (m_abs : PySem.W.nsIn K mainGlobals "abs" = some none)
    (m_min : PySem.W.nsIn K mainGlobals "min" = some none)
    (m_max : PySem.W.nsIn K mainGlobals "max" = some none)
    (m_isinstance : PySem.W.nsIn K mainGlobals "isinstance" = some none)
    (m_range : PySem.W.nsIn K mainGlobals "range" = some none)
    (m_bool : PySem.W.nsIn K mainGlobals "bool" = some none)
    (m_tuple : PySem.W.nsIn K mainGlobals "tuple" = some none)
    (m_ValueError : PySem.W.nsIn K mainGlobals "ValueError" = some none)
    (n_BadRatio : PySem.W.nsIn K mainGlobals "BadRatio" = some (some (.ref C_BadRatio)))
    (n_PaperError : PySem.W.nsIn K mainGlobals "PaperError" = some (some (.ref C_PaperError)))
    (n_BadLiteral : PySem.W.nsIn K mainGlobals "BadLiteral" = some (some (.ref C_BadLiteral)))
    (n_BadModel : PySem.W.nsIn K mainGlobals "BadModel" = some (some (.ref C_BadModel)))
    (n_BadName : PySem.W.nsIn K mainGlobals "BadName" = some (some (.ref C_BadName)))
    (n_BadNode : PySem.W.nsIn K mainGlobals "BadNode" = some (some (.ref C_BadNode)))
    (n_BadSort : PySem.W.nsIn K mainGlobals "BadSort" = some (some (.ref C_BadSort)))
    (n_BadText : PySem.W.nsIn K mainGlobals "BadText" = some (some (.ref C_BadText)))
    (n_NameTaken : PySem.W.nsIn K mainGlobals "NameTaken" = some (some (.ref C_NameTaken)))
    (n_NoAnswer : PySem.W.nsIn K mainGlobals "NoAnswer" = some (some (.ref C_NoAnswer)))
    (n_NoLevel : PySem.W.nsIn K mainGlobals "NoLevel" = some (some (.ref C_NoLevel)))
    (n_UnknownName : PySem.W.nsIn K mainGlobals "UnknownName" = some (some (.ref C_UnknownName)))
    (q_BadRatio : PySem.W.excIn K C_BadRatio [.type "ValueError", .type "Exception", .type "BaseException", .type "object"] "ValueError.__new__" = true)
    (k_BadRatio : PySem.W.keepIn K (.ref C_BadRatio) = true)
    (r_BadRatio : PySem.W.subIn K (.ref C_BadRatio) (.type "BaseException") = some true)
    (t_BadRatio : PySem.W.typeIn K (.ref C_BadRatio) = some (.type "type"))
    (xg : PySem.W.findIn K (.ref C_BadRatio) "__getattribute__" = some (some (.builtin "BaseException.__getattribute__")))
    (xk : PySem.W.findIn K (.ref C_BadRatio) "__getattr__" = some none)
    (xd : PySem.W.hasDictIn K C_BadRatio = true)
    (xa : PySem.W.findIn K (.ref C_BadRatio) "__class__" = some (some (.builtin "object.__class__")))
    (xn : PySem.W.specialIn K (.builtin "object.__class__") "__get__" = some (some (.builtin "getset_descriptor.__get__")))
    (xt : PySem.W.takesIn K (.builtin "object.__class__") = some true)
    (xm : PySem.W.mroIn K C_BadRatio (.type "object") = some true)
    (e_BadRatio_BadRatio : PySem.W.exmOne K (.ref C_BadRatio) (.ref C_BadRatio) = some true)
    (e_BadRatio_PaperError : PySem.W.exmOne K (.ref C_BadRatio) (.ref C_PaperError) = some true)
    (i_1 : PySem.W.kitAny K (.ref C_BadRatio) [.ref C_BadLiteral, .ref C_BadModel, .ref C_BadName, .ref C_BadNode, .ref C_BadSort, .ref C_BadText] = some false)
    (i_2 : PySem.W.kitAny K (.ref C_BadRatio) [.ref C_NameTaken, .ref C_NoAnswer, .ref C_NoLevel, .ref C_UnknownName] = some false)
    (i_3 : PySem.W.kitOne K (.ref C_BadRatio) (.ref C_BadRatio) = some true)
    (i_4 : PySem.W.kitOne K (.ref C_BadRatio) (.type "ValueError") = some true)
    (mgcd : PySem.W.nsIn K mainGlobals "gcd" = some (some (.builtin "math.gcd"))) :
    ∃ fd : FuncData, (∀ (s : Shared) (v : Value), BindsTo s fd ⟨[v], []⟩ [("_law_script", v)]) ∧ ∀ base : Heap, K.In base → base.Ns mainGlobals mg → FnOk l.prog w K mg base CX0 6 fa fd ["_law_script"] (spLaw K) := by
  have e := hfa.symm.trans (PySem.W.mg_of X G a_law)
  have e2 : f_law = fa := by
    cases e
    rfl
  subst e2
  let T : Txt K mg := {
    f_ratio := f_ratio, fd_ratio := (PySem.W.fnOf "ratio" "ratio" (defArgs s_ratio) (defBody s_ratio) (defScope s_ratio) (.ref T_ratio) kV_ratio dc_ratio pm_ratio an_ratio cd_ratio ct_ratio), F_ratio := ⟨⟨_, _, _, _, _, _, _, _, _, _, rfl, l_ratio, c_ratio, .inr ⟨by decide, T_ratio, _, _, nT_ratio, rfl, t_ratio, rfl, (.cons ⟨_, rfl⟩ .nil : Vals [.int 1] [.int 1 u_tok])⟩, .inl rfl⟩, k_ratio⟩, g_ratio := PySem.W.mg_of X G a_ratio,
    f_plus := f_plus, fd_plus := _, F_plus := fun_mk (st := s_plus) l_plus c_plus k_plus, b_plus := (fun_mk (st := s_plus) l_plus c_plus k_plus).binds (ps := ["a", "b"]) fun _ _ _ _ _ _ us hl => match us, hl with | [_, _], _ => rfl, g_plus := PySem.W.mg_of X G a_plus,
    f_minus := f_minus, fd_minus := _, F_minus := fun_mk (st := s_minus) l_minus c_minus k_minus, b_minus := (fun_mk (st := s_minus) l_minus c_minus k_minus).binds (ps := ["a", "b"]) fun _ _ _ _ _ _ us hl => match us, hl with | [_, _], _ => rfl, g_minus := PySem.W.mg_of X G a_minus,
    f_times := f_times, fd_times := _, F_times := fun_mk (st := s_times) l_times c_times k_times, b_times := (fun_mk (st := s_times) l_times c_times k_times).binds (ps := ["a", "b"]) fun _ _ _ _ _ _ us hl => match us, hl with | [_, _], _ => rfl, g_times := PySem.W.mg_of X G a_times,
    f_over := f_over, fd_over := _, F_over := fun_mk (st := s_over) l_over c_over k_over, b_over := (fun_mk (st := s_over) l_over c_over k_over).binds (ps := ["a", "b"]) fun _ _ _ _ _ _ us hl => match us, hl with | [_, _], _ => rfl, g_over := PySem.W.mg_of X G a_over,
    f_opposite := f_opposite, fd_opposite := _, F_opposite := fun_mk (st := s_opposite) l_opposite c_opposite k_opposite, b_opposite := (fun_mk (st := s_opposite) l_opposite c_opposite k_opposite).binds (ps := ["a"]) fun _ _ _ _ _ _ us hl => match us, hl with | [_], _ => rfl, g_opposite := PySem.W.mg_of X G a_opposite,
    f_compare := f_compare, fd_compare := _, F_compare := fun_mk (st := s_compare) l_compare c_compare k_compare, b_compare := (fun_mk (st := s_compare) l_compare c_compare k_compare).binds (ps := ["a", "b"]) fun _ _ _ _ _ _ us hl => match us, hl with | [_, _], _ => rfl, g_compare := PySem.W.mg_of X G a_compare,
    f_pool := f_pool, fd_pool := _, F_pool := fun_mk (st := s_pool) l_pool c_pool k_pool, b_pool := (fun_mk (st := s_pool) l_pool c_pool k_pool).binds (ps := ["_law_script", "_law_k"]) fun _ _ _ _ _ _ us hl => match us, hl with | [_, _], _ => rfl, g_pool := PySem.W.mg_of X G a_pool,
    f_take := f_take, fd_take := _, F_take := fun_mk (st := s_take) l_take c_take k_take, b_take := (fun_mk (st := s_take) l_take c_take k_take).binds (ps := ["_law_pool_here", "_law_size"]) fun _ _ _ _ _ _ us hl => match us, hl with | [_, _], _ => rfl, g_take := PySem.W.mg_of X G a_take,
    f_whole := f_whole, fd_whole := _, F_whole := fun_mk (st := s_whole) l_whole c_whole k_whole, b_whole := (fun_mk (st := s_whole) l_whole c_whole k_whole).binds (ps := ["_law_value"]) fun _ _ _ _ _ _ us hl => match us, hl with | [_], _ => rfl, g_whole := PySem.W.mg_of X G a_whole,
    f_sized := f_sized, fd_sized := _, F_sized := fun_mk (st := s_sized) l_sized c_sized k_sized, b_sized := (fun_mk (st := s_sized) l_sized c_sized k_sized).binds (ps := ["_law_pool_here", "_law_pieces"]) fun _ _ _ _ _ _ us hl => match us, hl with | [_, _], _ => rfl, g_sized := PySem.W.mg_of X G a_sized,
    f_lowest := f_lowest, fd_lowest := _, F_lowest := fun_mk (st := s_lowest) l_lowest c_lowest k_lowest, b_lowest := (fun_mk (st := s_lowest) l_lowest c_lowest k_lowest).binds (ps := ["_law_p", "_law_q"]) fun _ _ _ _ _ _ us hl => match us, hl with | [_, _], _ => rfl, g_lowest := PySem.W.mg_of X G a_lowest,
    f_Lratio := f_Lratio, fd_Lratio := _, F_Lratio := fun_mk (st := s_Lratio) l_Lratio c_Lratio k_Lratio, b_Lratio := (fun_mk (st := s_Lratio) l_Lratio c_Lratio k_Lratio).binds (ps := ["_law_pool_here", "_law_pieces"]) fun _ _ _ _ _ _ us hl => match us, hl with | [_, _], _ => rfl, g_Lratio := PySem.W.mg_of X G a_Lratio,
    f_second := f_second, fd_second := _, F_second := fun_mk (st := s_second) l_second c_second k_second, b_second := (fun_mk (st := s_second) l_second c_second k_second).binds (ps := ["_law_pool_here", "_law_way", "_law_a"]) fun _ _ _ _ _ _ us hl => match us, hl with | [_, _, _], _ => rfl, g_second := PySem.W.mg_of X G a_second,
    f_two := f_two, fd_two := _, F_two := fun_mk (st := s_two) l_two c_two k_two, b_two := (fun_mk (st := s_two) l_two c_two k_two).binds (ps := ["_law_pool_here"]) fun _ _ _ _ _ _ us hl => match us, hl with | [_], _ => rfl, g_two := PySem.W.mg_of X G a_two,
    f_is := f_is, fd_is := _, F_is := fun_mk (st := s_is) l_is c_is k_is, b_is := (fun_mk (st := s_is) l_is c_is k_is).binds (ps := ["_law_told", "_law_top", "_law_bottom"]) fun _ _ _ _ _ _ us hl => match us, hl with | [_, _, _], _ => rfl, g_is := PySem.W.mg_of X G a_is,
    f_order := f_order, fd_order := _, F_order := fun_mk (st := s_order) l_order c_order k_order, b_order := (fun_mk (st := s_order) l_order c_order k_order).binds (ps := ["_law_told", "_law_a", "_law_b"]) fun _ _ _ _ _ _ us hl => match us, hl with | [_, _, _], _ => rfl, g_order := PySem.W.mg_of X G a_order,
    f_refused := f_refused, fd_refused := _, F_refused := fun_mk (st := s_refused) l_refused c_refused k_refused, b_refused := (fun_mk (st := s_refused) l_refused c_refused k_refused).binds (ps := ["_law_a", "_law_b", "_law_how"]) fun _ _ _ _ _ _ us hl => match us, hl with | [_, _, _], _ => rfl, g_refused := PySem.W.mg_of X G a_refused,
    f_all := f_all, fd_all := _, F_all := fun_mk (st := s_all) l_all c_all k_all, b_all := (fun_mk (st := s_all) l_all c_all k_all).binds (ps := ["_law_a", "_law_b", "_law_how"]) fun _ _ _ _ _ _ us hl => match us, hl with | [_, _, _], _ => rfl, g_all := PySem.W.mg_of X G a_all,
    f_law := f_law, fd_law := _, F_law := fun_mk (st := s_law) l_law c_law k_law, b_law := (fun_mk (st := s_law) l_law c_law k_law).binds (ps := ["_law_script"]) fun _ _ _ _ _ _ us hl => match us, hl with | [_], _ => rfl, g_law := PySem.W.mg_of X G a_law,
    m_len := PySem.W.mg_none_of X G m_len,
    m_int := PySem.W.mg_none_of X G m_int,
    m_abs := PySem.W.mg_none_of X G m_abs,
    m_min := PySem.W.mg_none_of X G m_min,
    m_max := PySem.W.mg_none_of X G m_max,
    m_isinstance := PySem.W.mg_none_of X G m_isinstance,
    m_range := PySem.W.mg_none_of X G m_range,
    m_bool := PySem.W.mg_none_of X G m_bool,
    m_tuple := PySem.W.mg_none_of X G m_tuple,
    m_ValueError := PySem.W.mg_none_of X G m_ValueError,
    C_BadRatio := C_BadRatio, c_BadRatio := PySem.W.mg_of X G n_BadRatio,
    C_PaperError := C_PaperError, c_PaperError := PySem.W.mg_of X G n_PaperError,
    C_BadLiteral := C_BadLiteral, c_BadLiteral := PySem.W.mg_of X G n_BadLiteral,
    C_BadModel := C_BadModel, c_BadModel := PySem.W.mg_of X G n_BadModel,
    C_BadName := C_BadName, c_BadName := PySem.W.mg_of X G n_BadName,
    C_BadNode := C_BadNode, c_BadNode := PySem.W.mg_of X G n_BadNode,
    C_BadSort := C_BadSort, c_BadSort := PySem.W.mg_of X G n_BadSort,
    C_BadText := C_BadText, c_BadText := PySem.W.mg_of X G n_BadText,
    C_NameTaken := C_NameTaken, c_NameTaken := PySem.W.mg_of X G n_NameTaken,
    C_NoAnswer := C_NoAnswer, c_NoAnswer := PySem.W.mg_of X G n_NoAnswer,
    C_NoLevel := C_NoLevel, c_NoLevel := PySem.W.mg_of X G n_NoLevel,
    C_UnknownName := C_UnknownName, c_UnknownName := PySem.W.mg_of X G n_UnknownName,
    q_BadRatio := q_BadRatio,
    k_BadRatio := k_BadRatio,
    r_BadRatio := r_BadRatio,
    t_BadRatio := t_BadRatio,
    x_BadRatio := ⟨xg, xk, r_BadRatio, xd, xa, xn, xt, xm⟩,
    e_BadRatio_BadRatio := e_BadRatio_BadRatio,
    e_BadRatio_PaperError := e_BadRatio_PaperError,
    i_1 := i_1,
    i_2 := i_2,
    i_3 := i_3,
    i_4 := i_4,
    m_gcd := PySem.W.mg_of X G mgcd }
  exact ⟨PySem.W.fnOf "law" "law" (defArgs s_law) (defBody s_law) (defScope s_law) .none kV_law dc_law pm_law an_law cd_law ct_law, fun s v => .of_eq rfl, fun base _ _ => ok_law T⟩
end L
open PySem PySem.W PyProof.Rows
set_option maxHeartbeats 0 in
theorem PySem.Challenge.cw_papersat_k02_ratio_arithmetic_holds : PySem.Challenge.rw_papersat_k02_ratio_arithmetic.Holds := by
  w_on; o_law; k_head; (case hw => w_witness2)
  k_fill
  refine L2.walk_of (l := PySem.Challenge.rw_papersat_k02_ratio_arithmetic) (n := 63) (k := 6) (x := "_law_script") (CX := fun _ => L2.CX0) (sp := fun w => L.spLaw _) rfl (by decide) rfl ⟨rfl, by decide, by decide⟩ (fun w h Y => PySem.W.kIn_of Y) ?F (fun _ _ a ns hl _ hS => ⟨a, ns, rfl, hS, hl, fun _ => rfl⟩) (fun _ _ _ _ _ h => h)
  case F =>
    intro w mg fa h KX G hmg
    refine' L.all_mk KX G hmg ?a_ratio ?l_ratio ?c_ratio ?k_ratio ?t_ratio ?a_plus ?l_plus ?c_plus ?k_plus ?a_minus ?l_minus ?c_minus ?k_minus ?a_times ?l_times ?c_times ?k_times ?a_over ?l_over ?c_over ?k_over ?a_opposite ?l_opposite ?c_opposite ?k_opposite ?a_compare ?l_compare ?c_compare ?k_compare ?a_pool ?l_pool ?c_pool ?k_pool ?a_take ?l_take ?c_take ?k_take ?a_whole ?l_whole ?c_whole ?k_whole ?a_sized ?l_sized ?c_sized ?k_sized ?a_lowest ?l_lowest ?c_lowest ?k_lowest ?a_Lratio ?l_Lratio ?c_Lratio ?k_Lratio ?a_second ?l_second ?c_second ?k_second ?a_two ?l_two ?c_two ?k_two ?a_is ?l_is ?c_is ?k_is ?a_order ?l_order ?c_order ?k_order ?a_refused ?l_refused ?c_refused ?k_refused ?a_all ?l_all ?c_all ?k_all ?a_law ?l_law ?c_law ?k_law ?m_len ?m_int ?m_abs ?m_min ?m_max ?m_isinstance ?m_range ?m_bool ?m_tuple ?m_ValueError ?n_BadRatio ?n_PaperError ?n_BadLiteral ?n_BadModel ?n_BadName ?n_BadNode ?n_BadSort ?n_BadText ?n_NameTaken ?n_NoAnswer ?n_NoLevel ?n_UnknownName ?q_BadRatio ?k_BadRatio ?r_BadRatio ?t_BadRatio ?xg ?xk ?xd ?xa ?xn ?xt ?xm ?e_BadRatio_BadRatio ?e_BadRatio_PaperError ?i_1 ?i_2 ?i_3 ?i_4 ?mgcd
    (case a_ratio => first | k_is | k_exc | rfl | kernel_rfl); (case l_ratio => first | k_is | k_exc | rfl | kernel_rfl); (case c_ratio => first | k_is | k_exc | rfl | kernel_rfl); (case k_ratio => first | k_is | k_exc | rfl | kernel_rfl); (case t_ratio => first | k_is | k_exc | rfl | kernel_rfl); (case a_plus => first | k_is | k_exc | rfl | kernel_rfl); (case l_plus => first | k_is | k_exc | rfl | kernel_rfl); (case c_plus => first | k_is | k_exc | rfl | kernel_rfl); (case k_plus => first | k_is | k_exc | rfl | kernel_rfl); (case a_minus => first | k_is | k_exc | rfl | kernel_rfl); (case l_minus => first | k_is | k_exc | rfl | kernel_rfl); (case c_minus => first | k_is | k_exc | rfl | kernel_rfl); (case k_minus => first | k_is | k_exc | rfl | kernel_rfl); (case a_times => first | k_is | k_exc | rfl | kernel_rfl); (case l_times => first | k_is | k_exc | rfl | kernel_rfl); (case c_times => first | k_is | k_exc | rfl | kernel_rfl); (case k_times => first | k_is | k_exc | rfl | kernel_rfl); (case a_over => first | k_is | k_exc | rfl | kernel_rfl); (case l_over => first | k_is | k_exc | rfl | kernel_rfl); (case c_over => first | k_is | k_exc | rfl | kernel_rfl); (case k_over => first | k_is | k_exc | rfl | kernel_rfl); (case a_opposite => first | k_is | k_exc | rfl | kernel_rfl); (case l_opposite => first | k_is | k_exc | rfl | kernel_rfl); (case c_opposite => first | k_is | k_exc | rfl | kernel_rfl); (case k_opposite => first | k_is | k_exc | rfl | kernel_rfl); (case a_compare => first | k_is | k_exc | rfl | kernel_rfl); (case l_compare => first | k_is | k_exc | rfl | kernel_rfl); (case c_compare => first | k_is | k_exc | rfl | kernel_rfl); (case k_compare => first | k_is | k_exc | rfl | kernel_rfl); (case a_pool => first | k_is | k_exc | rfl | kernel_rfl); (case l_pool => first | k_is | k_exc | rfl | kernel_rfl); (case c_pool => first | k_is | k_exc | rfl | kernel_rfl); (case k_pool => first | k_is | k_exc | rfl | kernel_rfl); (case a_take => first | k_is | k_exc | rfl | kernel_rfl); (case l_take => first | k_is | k_exc | rfl | kernel_rfl); (case c_take => first | k_is | k_exc | rfl | kernel_rfl); (case k_take => first | k_is | k_exc | rfl | kernel_rfl); (case a_whole => first | k_is | k_exc | rfl | kernel_rfl); (case l_whole => first | k_is | k_exc | rfl | kernel_rfl); (case c_whole => first | k_is | k_exc | rfl | kernel_rfl); (case k_whole => first | k_is | k_exc | rfl | kernel_rfl); (case a_sized => first | k_is | k_exc | rfl | kernel_rfl); (case l_sized => first | k_is | k_exc | rfl | kernel_rfl); (case c_sized => first | k_is | k_exc | rfl | kernel_rfl); (case k_sized => first | k_is | k_exc | rfl | kernel_rfl); (case a_lowest => first | k_is | k_exc | rfl | kernel_rfl); (case l_lowest => first | k_is | k_exc | rfl | kernel_rfl); (case c_lowest => first | k_is | k_exc | rfl | kernel_rfl); (case k_lowest => first | k_is | k_exc | rfl | kernel_rfl); (case a_Lratio => first | k_is | k_exc | rfl | kernel_rfl); (case l_Lratio => first | k_is | k_exc | rfl | kernel_rfl); (case c_Lratio => first | k_is | k_exc | rfl | kernel_rfl); (case k_Lratio => first | k_is | k_exc | rfl | kernel_rfl); (case a_second => first | k_is | k_exc | rfl | kernel_rfl); (case l_second => first | k_is | k_exc | rfl | kernel_rfl); (case c_second => first | k_is | k_exc | rfl | kernel_rfl); (case k_second => first | k_is | k_exc | rfl | kernel_rfl); (case a_two => first | k_is | k_exc | rfl | kernel_rfl); (case l_two => first | k_is | k_exc | rfl | kernel_rfl); (case c_two => first | k_is | k_exc | rfl | kernel_rfl); (case k_two => first | k_is | k_exc | rfl | kernel_rfl); (case a_is => first | k_is | k_exc | rfl | kernel_rfl); (case l_is => first | k_is | k_exc | rfl | kernel_rfl); (case c_is => first | k_is | k_exc | rfl | kernel_rfl); (case k_is => first | k_is | k_exc | rfl | kernel_rfl); (case a_order => first | k_is | k_exc | rfl | kernel_rfl); (case l_order => first | k_is | k_exc | rfl | kernel_rfl); (case c_order => first | k_is | k_exc | rfl | kernel_rfl); (case k_order => first | k_is | k_exc | rfl | kernel_rfl); (case a_refused => first | k_is | k_exc | rfl | kernel_rfl); (case l_refused => first | k_is | k_exc | rfl | kernel_rfl); (case c_refused => first | k_is | k_exc | rfl | kernel_rfl); (case k_refused => first | k_is | k_exc | rfl | kernel_rfl); (case a_all => first | k_is | k_exc | rfl | kernel_rfl); (case l_all => first | k_is | k_exc | rfl | kernel_rfl); (case c_all => first | k_is | k_exc | rfl | kernel_rfl); (case k_all => first | k_is | k_exc | rfl | kernel_rfl); (case a_law => first | k_is | k_exc | rfl | kernel_rfl); (case l_law => first | k_is | k_exc | rfl | kernel_rfl); (case c_law => first | k_is | k_exc | rfl | kernel_rfl); (case k_law => first | k_is | k_exc | rfl | kernel_rfl); (case m_len => first | k_is | k_exc | rfl | kernel_rfl); (case m_int => first | k_is | k_exc | rfl | kernel_rfl); (case m_abs => first | k_is | k_exc | rfl | kernel_rfl); (case m_min => first | k_is | k_exc | rfl | kernel_rfl); (case m_max => first | k_is | k_exc | rfl | kernel_rfl); (case m_isinstance => first | k_is | k_exc | rfl | kernel_rfl); (case m_range => first | k_is | k_exc | rfl | kernel_rfl); (case m_bool => first | k_is | k_exc | rfl | kernel_rfl); (case m_tuple => first | k_is | k_exc | rfl | kernel_rfl); (case m_ValueError => first | k_is | k_exc | rfl | kernel_rfl); (case n_BadRatio => first | k_is | k_exc | rfl | kernel_rfl); (case n_PaperError => first | k_is | k_exc | rfl | kernel_rfl); (case n_BadLiteral => first | k_is | k_exc | rfl | kernel_rfl); (case n_BadModel => first | k_is | k_exc | rfl | kernel_rfl); (case n_BadName => first | k_is | k_exc | rfl | kernel_rfl); (case n_BadNode => first | k_is | k_exc | rfl | kernel_rfl); (case n_BadSort => first | k_is | k_exc | rfl | kernel_rfl); (case n_BadText => first | k_is | k_exc | rfl | kernel_rfl); (case n_NameTaken => first | k_is | k_exc | rfl | kernel_rfl); (case n_NoAnswer => first | k_is | k_exc | rfl | kernel_rfl); (case n_NoLevel => first | k_is | k_exc | rfl | kernel_rfl); (case n_UnknownName => first | k_is | k_exc | rfl | kernel_rfl); (case q_BadRatio => first | k_is | k_exc | rfl | kernel_rfl); (case k_BadRatio => first | k_is | k_exc | rfl | kernel_rfl); (case r_BadRatio => first | k_is | k_exc | rfl | kernel_rfl); (case t_BadRatio => first | k_is | k_exc | rfl | kernel_rfl); (case xg => first | k_is | k_exc | rfl | kernel_rfl); (case xk => first | k_is | k_exc | rfl | kernel_rfl); (case xd => first | k_is | k_exc | rfl | kernel_rfl); (case xa => first | k_is | k_exc | rfl | kernel_rfl); (case xn => first | k_is | k_exc | rfl | kernel_rfl); (case xt => first | k_is | k_exc | rfl | kernel_rfl); (case xm => first | k_is | k_exc | rfl | kernel_rfl); (case e_BadRatio_BadRatio => first | k_is | k_exc | rfl | kernel_rfl); (case e_BadRatio_PaperError => first | k_is | k_exc | rfl | kernel_rfl); (case i_1 => first | k_is | k_exc | rfl | kernel_rfl); (case i_2 => first | k_is | k_exc | rfl | kernel_rfl); (case i_3 => first | k_is | k_exc | rfl | kernel_rfl); (case i_4 => first | k_is | k_exc | rfl | kernel_rfl); (case mgcd => first | k_is | k_exc | rfl | kernel_rfl)
#print axioms PySem.Challenge.cw_papersat_k02_ratio_arithmetic_holds
