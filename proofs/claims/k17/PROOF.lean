import PyProof.Rows.All
import Wide.All
import OpenK.AllK
import Wide.FinOn
import HandS.ForMost
import HandS.ForExc
import HandS.IsInst
import HandS.Gcd
import HandS.Defaults
import HandS.Wide
import HandS.WideBits
import HandS.ExcIs
import HandS.Small
import HandS.Flow
import HandS.More
import HandS.SortKw
import HandS.Evl
import KE.SortKeyHeap
import KE.SortData
import PySem.Challenge.RW_papersat_k17_clauses_and_resolve
set_option Elab.async false
set_option linter.all false
set_option maxRecDepth 100000
set_option maxHeartbeats 4000000
/-! ### short words for readings -/
namespace Z
open PySem PySem.Spec PyProof.Rows L2
variable {σ σ' : L2.St} {H : Hp} {Q : VK} {D : Ends} {ta tb te : TE} {t u : TS} {tt tu : TT} {g : TG} {v x y : V} {i : Nat} {K : PySem.W.Frag} {p : Addr}
theorem w_var (h : σ[i]? = some (some v)) (q : Q v H) : tVar i σ H Q := ⟨v, h, q⟩
theorem w_c (q : Q v H) : tC v σ H Q := q
theorem w_op {r : R2} (h : ta σ H fun x H1 => tb σ H1 fun y H2 => r x y H2 Q) : tOp r ta tb σ H Q := h
theorem w_un {r : V → Hp → VK → Prop} (h : ta σ H fun x H1 => r x H1 Q) : tUn r ta σ H Q := h
theorem w_rI0 {f : Int → Int → V} {a b : Int} (q : Q (f a b) H) : rI0 f (.int a) (.int b) H Q := ⟨a, b, rfl, rfl, q⟩
theorem w_rI {C : Int → Int → Prop} {f : Int → Int → V} {a b : Int} (c : C a b) (q : Q (f a b) H) : rI C f (.int a) (.int b) H Q := ⟨a, b, rfl, rfl, c, q⟩
theorem w_rU {f : Int → V} {a : Int} (q : Q (f a) H) : rU f (.int a) H Q := ⟨a, rfl, q⟩
theorem w_rEq (c : scal x y = true) (q : Q (.bl (decide (x = y))) H) : rEq x y H Q := ⟨c, q⟩
theorem w_rNe (c : scal x y = true) (q : Q (.bl (!decide (x = y))) H) : rNe x y H Q := ⟨c, q⟩
theorem w_rEqI {a b : Int} (q : Q (.bl (decide (a = b))) H) : rEq (.int a) (.int b) H Q := ⟨rfl, by
  rw [show decide (V.int a = V.int b) = decide (a = b) by simp]; exact q⟩
theorem w_rNeI {a b : Int} (q : Q (.bl (!decide (a = b))) H) : rNe (.int a) (.int b) H Q := ⟨rfl, by
  rw [show decide (V.int a = V.int b) = decide (a = b) by simp]; exact q⟩
theorem w_ixL {xs : List V} {k : Int} (h : SqL K H p xs) (a : atI xs k = some v) (q : Q v H) : rIxL K (.ref p) (.int k) H Q := ⟨p, xs, k, v, rfl, rfl, h, a, q⟩
theorem w_ixT {xs : List V} {k : Int} (h : SqT K H p xs) (a : atI xs k = some v) (q : Q v H) : rIxT K (.ref p) (.int k) H Q := ⟨p, xs, k, v, rfl, rfl, h, a, q⟩
theorem w_start (e : σ = σ') (h : t D σ' H) : t D σ H := by rw [e]; exact h
theorem w_seq (h : t { D with nx := u D } σ H) : tSeq t u D σ H := h
theorem w_next (h : D.nx σ H) : tNext D σ H := h
theorem w_break (h : D.bk σ H) : tBreak D σ H := h
theorem w_cont (h : D.ct σ H) : tCont D σ H := h
theorem w_drop (h : te σ H fun _ H1 => D.nx σ H1) : tDrop te D σ H := h
theorem w_ret (h : te σ H D.rt) : tRet te D σ H := h
theorem w_asg (h : te σ H fun x H1 => g x σ H1 D.nx) : tAsg te g D σ H := h
theorem w_gname {R : L2.St → Hp → Prop} (e : σ.set i (some v) = σ') (h : R σ' H) : gName i v σ H R := by rw [← e] at h; exact h
theorem w_ifs (h : tt σ H fun b H1 => if b = true then t D σ H1 else u D σ H1) : tIfS tt t u D σ H := h
theorem w_test {R : Bool → Hp → Prop} (h : te σ H fun x H1 => ∃ k, x = .bl k ∧ R k H1) : tTest te σ H R := h
theorem w_B {R : Bool → Hp → Prop} (h : te σ H fun x H1 => ∃ k, x = .bl k ∧ R k H1) : tB te σ H R := h
theorem w_bl {k : Bool} {R : Bool → Prop} (h : R k) : ∃ c, V.bl k = V.bl c ∧ R c := ⟨k, rfl, h⟩
theorem w_tand {R : Bool → Hp → Prop} (h : tt σ H fun c H1 => if c = true then tu σ H1 R else R false H1) : tAnd tt tu σ H R := h
theorem w_tor {R : Bool → Hp → Prop} (h : tt σ H fun c H1 => if c = true then R true H1 else tu σ H1 R) : tOr tt tu σ H R := h
theorem w_tnot {R : Bool → Hp → Prop} (h : tt σ H fun c H1 => R (!c) H1) : tNot tt σ H R := h
theorem w_andV (h : ta σ H fun x H1 => ∃ c, x = .bl c ∧ if c = true then tb σ H1 Q else Q (.bl false) H1) : tAndV ta tb σ H Q := h
theorem w_orV (h : ta σ H fun x H1 => ∃ c, x = .bl c ∧ if c = true then Q (.bl true) H1 else tb σ H1 Q) : tOrV ta tb σ H Q := h
theorem w_notV (h : ta σ H fun x H1 => ∃ c, x = .bl c ∧ Q (.bl (!c)) H1) : tNotV ta σ H Q := h
theorem w_ifV (h : tt σ H fun c H1 => if c = true then ta σ H1 Q else tb σ H1 Q) : tIf tt ta tb σ H Q := h
theorem w_nil {R : List V → Hp → Prop} (h : R [] H) : tNil σ H R := h
theorem w_cons {tr : TA} {R : List V → Hp → Prop} (h : ta σ H fun x H1 => tr σ H1 fun xs H2 => R (x :: xs) H2) : tCons ta tr σ H R := h
theorem w_cb {r : List V → Hp → VK → Prop} {tl : TA} (h : tl σ H fun vs H1 => r vs H1 Q) : tCB r tl σ H Q := h
theorem w_call {sp : Sp} {dvs : List V} {E : XK} {tl : TA} (h : tl σ H fun vs H1 => sp (vs ++ dvs) H1 Q E) : tCall sp dvs E tl σ H Q := h
theorem w_call0 {sp : Sp} {E : XK} {tl : TA} (h : tl σ H fun vs H1 => sp vs H1 Q E) : tCall sp [] E tl σ H Q := by
  unfold tCall
  simp only [List.append_nil]
  exact h
theorem w_tup {tl : TA} (h : tl σ H fun xs H1 => xs.length ≤ sizeLine ∧ ∀ p, H1 p = none → Q (.ref p) (upd H1 p (.tup xs))) : tTup tl σ H Q := h
theorem w_lst {tl : TA} (h : tl σ H fun xs H1 => xs.length ≤ sizeLine ∧ ∀ p, H1 p = none → Q (.ref p) (upd H1 p (.lst xs))) : tLst tl σ H Q := h
def par2 (a b : Nat) (vs : List V) (σ : L2.St) (H : Hp) (R : L2.St → Hp → Prop) : Prop := ∃ v w, vs = [v, w] ∧ R ((σ.set a (some v)).set b (some w)) H
theorem w_par {a b : Nat} {tl : TA} (h : tl σ H fun vs H1 => par2 a b vs σ H1 D.nx) : tPar a b tl D σ H := h
theorem w_par2 {a b : Nat} {v w : V} {R : L2.St → Hp → Prop} (e : (σ.set a (some v)).set b (some w) = σ') (h : R σ' H) : par2 a b [v, w] σ H R := ⟨v, w, rfl, by rw [e]; exact h⟩
theorem w_gtup {n : Nat} {gs : TGs} {xs : List V} {R : L2.St → Hp → Prop} (h : SqT K H p xs) (l : xs.length = n) (q : gs xs σ H R) : gTup K n gs (.ref p) σ H R := ⟨p, xs, rfl, h, l, q⟩
theorem w_gcons {gs : TGs} {vs : List V} {R : L2.St → Hp → Prop} (h : g v σ H fun σ' H' => gs vs σ' H' R) : gCons g gs (v :: vs) σ H R := ⟨v, vs, rfl, h⟩
theorem w_gnil {R : L2.St → Hp → Prop} (h : R σ H) : gNil [] σ H R := ⟨rfl, h⟩
theorem w_gsub {to ti : TE} {ts : TSet} {R : L2.St → Hp → Prop} (h : to σ H fun o H1 => ti σ H1 fun i H2 => ts o i v H2 fun H3 => R σ H3) : gSub to ti ts v σ H R := h
theorem w_setL {xs : List V} {k : Int} {j : Nat} {R : Hp → Prop} (h : H p = some (.lst xs)) (e : ixN xs.length k = some j) (q : R (upd H p (.lst (xs.set j v)))) : rSetL (.ref p) (.int k) v H R := ⟨p, xs, k, j, rfl, rfl, h, e, q⟩
theorem w_rng1 {tl : TA} {R : It → Hp → Prop} (h : tl σ H fun vs H1 => ∃ j : Int, vs = [.int j] ∧ -(2 ^ 62) ≤ j ∧ j < 2 ^ 62 ∧ R (Itr 0 j.toNat) H1) : iRng1 tl σ H R := h
theorem w_rng1' {j : Int} {R : It → Prop} (h1 : -(2 ^ 62) ≤ j) (h2 : j < 2 ^ 62) (h : R (Itr 0 j.toNat)) : ∃ k : Int, [V.int j] = [.int k] ∧ -(2 ^ 62) ≤ k ∧ k < 2 ^ 62 ∧ R (Itr 0 k.toNat) := ⟨j, rfl, h1, h2, h⟩
theorem w_for {wi : TI} {tb' : TS} (h : wi σ H fun J H1 => ∃ W : Nat → Nat → L2.St → Hp → Prop, (∃ m, W 0 m σ H1) ∧ ∀ i m σ H, W i m σ H →
  (J.stop i H ∧ D.nx σ H) ∨ (J.go i H ∧ ∃ N : L2.St → Hp → Prop, (∀ σ' H', N σ' H' → ∃ m', m' < m ∧ W (i + 1) m' σ' H') ∧ ∀ x H', J.yld i H x H' → g x σ H' fun σ2 H2 => tb' { D with nx := N, ct := N, bk := D.nx } σ2 H2)) : tFor wi g tb' D σ H := h
theorem w_bits (h : te σ H fun x H1 => ∃ i, x = .int i ∧ Q (.int (Builtin.Int.intBits i : Nat)) H1) : tBits te σ H Q := h
theorem w_ex1 {a : Int} {R : Int → Prop} (h : R a) : ∃ i, V.int a = V.int i ∧ R i := ⟨a, rfl, h⟩
theorem w_exl {xs : List V} {R : List V → Prop} (h : R xs) : ∃ ys, xs = ys ∧ R ys := ⟨xs, rfl, h⟩
theorem sz4 {n : Nat} (h : n ≤ 1000) : n ≤ sizeLine := Nat.le_trans h (by decide)
theorem w_ixH {xs : List V} {k : Int} (h : H p = some (.lst xs)) (a : atI xs k = some v) (q : Q v H) : rIxL K (.ref p) (.int k) H Q := ⟨p, xs, k, v, rfl, rfl, .inl (.inl h), a, q⟩
theorem w_ixTH {xs : List V} {k : Int} (h : H p = some (.tup xs)) (a : atI xs k = some v) (q : Q v H) : rIxT K (.ref p) (.int k) H Q := ⟨p, xs, k, v, rfl, rfl, .inl (.inl h), a, q⟩
theorem w_gtupH {n : Nat} {gs : TGs} {xs : List V} {R : L2.St → Hp → Prop} (h : H p = some (.tup xs)) (l : xs.length = n) (q : gs xs σ H R) : gTup K n gs (.ref p) σ H R := ⟨p, xs, rfl, .inl (.inl h), l, q⟩
theorem w_setLu {xs ys : List V} {k : Int} {j : Nat} {R : Hp → Prop} {H0 : Hp} (e : ixN xs.length k = some j) (e2 : xs.set j v = ys) (q : R (upd H0 p (.lst ys))) : rSetL (.ref p) (.int k) v (upd H0 p (.lst xs)) R := ⟨p, xs, k, j, rfl, rfl, upd_same, e, by rw [upd_upd, e2]; exact q⟩
theorem w_setLh {xs ys : List V} {k : Int} {j : Nat} {R : Hp → Prop} (h : H p = some (.lst xs)) (e : ixN xs.length k = some j) (e2 : xs.set j v = ys) (q : R (upd H p (.lst ys))) : rSetL (.ref p) (.int k) v H R := ⟨p, xs, k, j, rfl, rfl, h, e, by rw [e2]; exact q⟩
theorem w_lenL {xs : List V} {R : V → Prop} (h : SqL K H p xs) (q : R (.int xs.length)) : ∃ a ys, [V.ref p] = [.ref a] ∧ (SqL K H a ys ∨ SqT K H a ys) ∧ R (.int ys.length) := ⟨p, xs, rfl, .inl h, q⟩
theorem w_lenT {xs : List V} {R : V → Prop} (h : SqT K H p xs) (q : R (.int xs.length)) : ∃ a ys, [V.ref p] = [.ref a] ∧ (SqL K H a ys ∨ SqT K H a ys) ∧ R (.int ys.length) := ⟨p, xs, rfl, .inr h, q⟩
theorem upd_skip {a b : Addr} {o : HO} {u : Option HO} (h : a ≠ b) (e : H a = u) : (upd H b o) a = u := by rw [upd_ne h]; exact e
section
variable {c A B : Prop} [Decidable c]
theorem w_ite (h1 : c → A) (h2 : ¬ c → B) : if decide c = true then A else B := by
  by_cases h : c
  · rw [if_pos (decide_eq_true h)]; exact h1 h
  · rw [if_neg (fun z => h (of_decide_eq_true z))]; exact h2 h
theorem w_iteN (h1 : ¬ c → A) (h2 : c → B) : if (!decide c) = true then A else B := by
  by_cases h : c
  · rw [decide_eq_true h]; exact h2 h
  · rw [decide_eq_false h]; exact h1 h
theorem w_iteT (h : c) (q : A) : if decide c = true then A else B := by rw [if_pos (decide_eq_true h)]; exact q
theorem w_iteF (h : ¬ c) (q : B) : if decide c = true then A else B := by rw [if_neg (fun z => h (of_decide_eq_true z))]; exact q
theorem w_iteNT (h : ¬ c) (q : A) : if (!decide c) = true then A else B := by rw [decide_eq_false h]; exact q
theorem w_iteNF (h : c) (q : B) : if (!decide c) = true then A else B := by rw [decide_eq_true h]; exact q
theorem w_iteb {k : Bool} (h1 : k = true → A) (h2 : k = false → B) : if k = true then A else B := by
  cases k with
  | true => exact h1 rfl
  | false => exact h2 rfl
theorem w_ibT (q : A) : if true = true then A else B := q
theorem w_ibF (q : B) : if false = true then A else B := q
theorem w_ibNT (q : A) : if (!false) = true then A else B := q
theorem w_ibNF (q : B) : if (!true) = true then A else B := q
end
theorem upd_fresh {a b : Addr} {o : HO} (h : H a = none) (h' : H b = some o) {u : HO} (hu : upd H b u a = none) : True := trivial
theorem fresh_of {a b : Addr} {u : HO} (h : (upd H b u) a = none) : a ≠ b ∧ H a = none := by
  by_cases e : a = b
  · subst e; rw [upd_same] at h; cases h
  · rw [upd_ne e] at h; exact ⟨e, h⟩
theorem pick {ns : List Int} {k : Int} (h0 : 0 ≤ k) (h : k < ns.length) : ∃ z, atI (ns.map V.int) k = some (.int z) ∧ z ∈ ns := by
  obtain ⟨j, rfl⟩ := Int.eq_ofNat_of_zero_le h0
  have hj : j < ns.length := by omega
  refine ⟨ns[j], atI_nat (j := j) ?_, List.getElem_mem hj⟩
  rw [List.getElem?_map, List.getElem?_eq_getElem hj]
  rfl
theorem w_isi {c x : V} {ty u : Value} {b : Bool} (hc : ClsV c u) (ht : TyX K H x ty) (e : PySem.W.kitOne K ty u = some b) (q : Q (.bl b) H) : rIsi K [x, c] H Q := ⟨x, c, ty, u, b, rfl, hc, ht, e, q⟩
theorem w_isi_ii {a : Int} (q : Q (.bl true) H) : rIsi K [.int a, .ty "int"] H Q := w_isi (.ty _) (.base (.int _)) (kit_ty (by decide +kernel)) q
theorem w_isi_ib {a : Int} (q : Q (.bl false) H) : rIsi K [.int a, .ty "bool"] H Q := w_isi (.ty _) (.base (.int _)) (kit_ty (by decide +kernel)) q
theorem w_isi_bb {a : Bool} (q : Q (.bl true) H) : rIsi K [.bl a, .ty "bool"] H Q := w_isi (.ty _) (.base (.bl _)) (kit_ty (by decide +kernel)) q
theorem w_isi_bi {a : Bool} (q : Q (.bl true) H) : rIsi K [.bl a, .ty "int"] H Q := w_isi (.ty _) (.base (.bl _)) (kit_ty (by decide +kernel)) q
theorem w_isi_ss {a : Str} (q : Q (.bl true) H) : rIsi K [.str a, .ty "str"] H Q := w_isi (.ty _) (.base (.str _)) (kit_ty (by decide +kernel)) q
theorem w_isi_is {a : Int} (q : Q (.bl false) H) : rIsi K [.int a, .ty "str"] H Q := w_isi (.ty _) (.base (.int _)) (kit_ty (by decide +kernel)) q
theorem w_isi_tt {xs : List V} (h : H p = some (.tup xs)) (q : Q (.bl true) H) : rIsi K [.ref p, .ty "tuple"] H Q := w_isi (.ty _) (.base (.tup h)) (kit_ty (by decide +kernel)) q
theorem w_isi_tl {xs : List V} (h : H p = some (.tup xs)) (q : Q (.bl false) H) : rIsi K [.ref p, .ty "list"] H Q := w_isi (.ty _) (.base (.tup h)) (kit_ty (by decide +kernel)) q
theorem w_isi_ll {xs : List V} (h : H p = some (.lst xs)) (q : Q (.bl true) H) : rIsi K [.ref p, .ty "list"] H Q := w_isi (.ty _) (.base (.lst h)) (kit_ty (by decide +kernel)) q
theorem w_isi_lt {xs : List V} (h : H p = some (.lst xs)) (q : Q (.bl false) H) : rIsi K [.ref p, .ty "tuple"] H Q := w_isi (.ty _) (.base (.lst h)) (kit_ty (by decide +kernel)) q
theorem w_isi_ti {xs : List V} (h : H p = some (.tup xs)) (q : Q (.bl false) H) : rIsi K [.ref p, .ty "int"] H Q := w_isi (.ty _) (.base (.tup h)) (kit_ty (by decide +kernel)) q
theorem w_isi_tb {xs : List V} (h : H p = some (.tup xs)) (q : Q (.bl false) H) : rIsi K [.ref p, .ty "bool"] H Q := w_isi (.ty _) (.base (.tup h)) (kit_ty (by decide +kernel)) q
theorem w_isi_ts {xs : List V} (h : H p = some (.tup xs)) (q : Q (.bl false) H) : rIsi K [.ref p, .ty "str"] H Q := w_isi (.ty _) (.base (.tup h)) (kit_ty (by decide +kernel)) q
theorem w_isi_li {xs : List V} (h : H p = some (.lst xs)) (q : Q (.bl false) H) : rIsi K [.ref p, .ty "int"] H Q := w_isi (.ty _) (.base (.lst h)) (kit_ty (by decide +kernel)) q
theorem w_isi_lb {xs : List V} (h : H p = some (.lst xs)) (q : Q (.bl false) H) : rIsi K [.ref p, .ty "bool"] H Q := w_isi (.ty _) (.base (.lst h)) (kit_ty (by decide +kernel)) q
theorem w_isi_ls {xs : List V} (h : H p = some (.lst xs)) (q : Q (.bl false) H) : rIsi K [.ref p, .ty "str"] H Q := w_isi (.ty _) (.base (.lst h)) (kit_ty (by decide +kernel)) q
theorem w_gcd {a b : Int} (q : Q (.int (Nat.gcd a.natAbs b.natAbs : Nat)) H) : rGcd [.int a, .int b] H Q := ⟨a, b, rfl, q⟩
theorem w_callN {n m : Nat} {sp : Sp} {gV : List V → List V → List V} {E : XK} {t1 t2 : TA} (h : t1 σ H fun vs H1 => t2 σ H1 fun zs H2 => vs.length = n ∧ zs.length = m ∧ sp (gV vs zs) H2 Q E) : tCallN n m sp gV E t1 t2 σ H Q := h
theorem w_callS {sp : Sp} {E : L2.St → XK} {t1 : TA} (h : t1 σ H fun vs H1 => sp vs H1 Q (E σ)) : tCallS sp E t1 σ H Q := h
theorem same_of {H H' : Hp} {p : Addr} {o : HO} (s : Same H H') (n : H' p = none) : Same H (upd H' p o) := fun b x e => by
  rw [upd_ne (ne_of_none (s b x e) n)]
  exact s b x e
theorem same_mut {H H' : Hp} {p : Addr} {o : HO} (s : Same H H') (n : H p = none) : Same H (upd H' p o) := fun b x e => by
  rw [upd_ne (ne_of_none e n)]
  exact s b x e
theorem w_dnew (h : ∀ d, H d = none → Q (.ref d) (upd H d (.dK []))) : tDNewK σ H Q := h
theorem w_dput {td ty tv : TE} (h : tv σ H fun v H1 => td σ H1 fun x H2 => ty σ H2 fun y H3 => ∃ a H4, x = .ref a ∧ DPut H3 a y v H4 ∧ D.nx σ H4) : sDPut td ty tv D σ H := h
theorem w_din {ty td : TE} (h : ty σ H fun y H1 => td σ H1 fun x H2 => ∃ a o, x = .ref a ∧ DGet H2 a y o ∧ Q (.bl o.isSome) H2) : tDIn ty td σ H Q := h
theorem w_dnin {ty td : TE} (h : ty σ H fun y H1 => td σ H1 fun x H2 => ∃ a o, x = .ref a ∧ DGet H2 a y o ∧ Q (.bl (!o.isSome)) H2) : tDNotIn ty td σ H Q := h
theorem w_iTup {tl : TE} {R : It → Hp → Prop} (h : tl σ H fun x H1 => ∃ a, x = .ref a ∧ (∃ xs, SqT K H1 a xs) ∧ R (Itt K a) H1) : iTup K tl σ H R := h
theorem w_iList {tl : TE} {R : It → Hp → Prop} (h : tl σ H fun x H1 => ∃ a, x = .ref a ∧ (∃ xs, SqL K H1 a xs) ∧ R (Itl K a) H1) : iList K tl σ H R := h
theorem w_lc {wi : TI} {ivs : List Nat} (h : wi σ H fun J H1 => ∀ Dl, H1 Dl = none → ∃ W : Nat → Nat → Hp → Prop, (∃ m, W 0 m (upd H1 Dl (.lst []))) ∧ ∀ i m H, W i m H →
  (J.stop i H ∧ Q (.ref Dl) H) ∨ (J.go i H ∧ ∃ Nx : Hp → Prop, (∀ H', Nx H' → ∃ m', m' < m ∧ W (i + 1) m' H') ∧ ∀ x H', J.yld i H x H' → g x (wipe σ ivs) H' fun σ2 H2 => wipe σ2 ivs = wipe σ ivs ∧ tt σ2 H2 fun b H3 =>
    if b = true then te σ2 H3 fun y H4 => ∃ acc, H4 Dl = some (.lst acc) ∧ acc.length < sizeLine ∧ Nx (upd H4 Dl (.lst (acc ++ [y]))) else Nx H3)) : tLc wi g tt te ivs σ H Q := h
theorem w_yes {R : Bool → Hp → Prop} (h : R true H) : tYes σ H R := h
theorem w_opin {neg : Bool} {xs : List V} (hs : SqL K H p xs ∨ SqT K H p xs) (hx : flatV x = true) (ha : xs.all flatV = true) (q : Q (.bl (if neg then !inV x xs else inV x xs)) H) : rIn K neg x (.ref p) H Q := ⟨p, xs, rfl, hs, hx, ha, q⟩
theorem w_isN (q : Q (.bl (decide (x = .non))) H) : (V.non = V.non ∧ Q (.bl (decide (x = .non))) H) := ⟨rfl, q⟩
theorem w_bm {T : String} {r : V → List V → Hp → VK → Prop} {to : TE} {tl : TA} (h : to σ H fun x H1 => tyV K T x H1 ∧ tl σ H1 fun xs H2 => r x xs H2 Q) : tBM K T r to tl σ H Q := h
theorem w_tyL {xs : List V} {R : Prop} (h : H p = some (.lst xs)) (q : R) : tyV K "list" (.ref p) H ∧ R := ⟨Or.inl ⟨rfl, xs, .inl (.inl h)⟩, q⟩
theorem w_app {xs : List V} (h : H p = some (.lst xs)) (l : xs.length < 100000) (q : Q .non (upd H p (.lst (xs ++ [v])))) : rAppend (.ref p) [v] H Q := ⟨p, xs, v, rfl, rfl, h, Nat.lt_of_lt_of_le l (by decide), q⟩
theorem w_bm0 {T : String} {r : V → List V → Hp → VK → Prop} {to : TE} (h : to σ H fun x H1 => tyV K T x H1 ∧ r x [] H1 Q) : tBM0 K T r to σ H Q := h
theorem w_rev {xs : List V} (h : H p = some (.lst xs)) (q : Q .non (upd H p (.lst xs.reverse))) : rReverse (.ref p) [] H Q := ⟨p, xs, rfl, rfl, h, q⟩
/-- pools -/
def IsPool (o : HO) : Prop := ∃ (c k : Int) (b : Bool) (s : Int), o = .lst [.int c, .int k, .bl b, .int s]
theorem upd_of {a b : Addr} {o : HO} (h : H b = none) {u : HO} (e : H a = some u) : (upd H b o) a = some u := by rw [upd_ne (ne_of_none e h)]; exact e
end Z
local macro_rules | `(tactic| walk_at "sz") => `(tactic| first | omega | (split <;> omega) | ((repeat' split) <;> omega) | (simp only [List.length_map]; (repeat' split) <;> omega))
local macro_rules | `(tactic| walk_at "hp") => `(tactic| first
  | assumption
  | exact L2.upd_same
  | ((refine' Z.upd_of ?h1 ?h2); (case h1 => assumption); (case h2 => walk_at "hp"))
  | ((refine' Z.upd_skip ?h1 ?h2); (case h1 => first | assumption | (apply Ne.symm; assumption)); (case h2 => walk_at "hp")))
local macro_rules | `(tactic| walk_at "cond") => `(tactic| first
  | exact L2.wide_mul (a := 200) (b := 200) (by omega) (by omega) (by decide) (by decide) (by decide)
  | exact L2.wide_div (b := 200) (by omega) (by omega) (by decide) (by decide)
  | exact ⟨by omega, by omega⟩
  | omega
  | exact (show (0 : Int) < _ by omega)
  | exact Or.inl ⟨by omega, by omega⟩
  | exact Or.inr ⟨by omega, by omega⟩
  | exact ⟨by omega, by omega, by decide⟩)
local macro_rules | `(tactic| walk_at "same") => `(tactic| first
  | assumption
  | exact L2.Same.refl _
  | (refine Z.same_of ?_ (by assumption); walk_at "same")
  | (refine Z.same_mut ?_ (by assumption); walk_at "same")
  | exact L2.Same.trans (by assumption) (by walk_at "same"))
local macro_rules | `(tactic| walk_at "seq") => `(tactic| first
  | assumption
  | (refine Or.inl (Or.inl ?_); walk_at "hp")
  | ((refine' L2.Same.seq ?se ?sh); (case sh => assumption); (case se => walk_at "same"))
  | ((refine' Evl.ex_t ?se ?sh); (case sh => assumption); (case se => walk_at "same")))
local macro_rules | `(tactic| walk_at "ar") => `(tactic| first
  | omega
  | (simp only [List.length_map, List.length_cons, List.length_nil]; omega))
local macro_rules | `(tactic| walk_at "w1") => `(tactic| first
  | with_reducible refine Z.w_seq ?_
  | with_reducible refine Z.w_asg ?_
  | with_reducible refine Z.w_op ?_
  | ((with_reducible refine' Z.w_var ?wv ?_); case wv => exact rfl)
  | with_reducible refine Z.w_c ?_
  | with_reducible refine Z.w_rI0 ?_
  | ((with_reducible refine' Z.w_gname ?we ?_); case we => (simp only [List.set_cons_zero, List.set_cons_succ] <;> rfl))
  | with_reducible refine Z.w_cons ?_
  | with_reducible refine Z.w_nil ?_
  | with_reducible refine Z.w_ifs ?_
  | with_reducible refine Z.w_test ?_
  | with_reducible refine Z.w_B ?_
  | with_reducible refine Z.w_bl ?_
  | with_reducible refine Z.w_rEqI ?_
  | with_reducible refine Z.w_rNeI ?_
  | with_reducible refine Z.w_cb ?_
  | with_reducible refine Z.w_call0 ?_
  | with_reducible refine Z.w_call ?_
  | with_reducible refine Z.w_isi_ii ?_
  | with_reducible refine Z.w_isi_ib ?_
  | with_reducible refine Z.w_isi_bb ?_
  | with_reducible refine Z.w_isi_bi ?_
  | with_reducible refine Z.w_isi_ss ?_
  | with_reducible refine Z.w_isi_is ?_
  | ((with_reducible refine' Z.w_isi_tt ?wh ?_); (case wh => walk_at "hp"))
  | ((with_reducible refine' Z.w_isi_tl ?wh ?_); (case wh => walk_at "hp"))
  | ((with_reducible refine' Z.w_isi_ll ?wh ?_); (case wh => walk_at "hp"))
  | ((with_reducible refine' Z.w_isi_lt ?wh ?_); (case wh => walk_at "hp"))
  | ((with_reducible refine' Z.w_isi_ti ?wh ?_); (case wh => walk_at "hp"))
  | ((with_reducible refine' Z.w_isi_tb ?wh ?_); (case wh => walk_at "hp"))
  | ((with_reducible refine' Z.w_isi_ts ?wh ?_); (case wh => walk_at "hp"))
  | ((with_reducible refine' Z.w_isi_li ?wh ?_); (case wh => walk_at "hp"))
  | ((with_reducible refine' Z.w_isi_lb ?wh ?_); (case wh => walk_at "hp"))
  | ((with_reducible refine' Z.w_isi_ls ?wh ?_); (case wh => walk_at "hp"))
  | with_reducible refine Z.w_tand ?_
  | with_reducible refine Z.w_tor ?_
  | with_reducible refine Z.w_tnot ?_
  | with_reducible refine Z.w_ret ?_
  | with_reducible refine Z.w_next ?_
  | with_reducible refine Z.w_un ?_
  | with_reducible refine Z.w_rU ?_
  | with_reducible refine Z.w_tup ?_
  | with_reducible refine Z.w_lst ?_
  | with_reducible refine Z.w_par ?_
  | ((with_reducible refine' Z.w_par2 ?we ?_); case we => (simp only [List.set_cons_zero, List.set_cons_succ] <;> rfl))
  | with_reducible refine Z.w_gsub ?_
  | with_reducible refine Z.w_andV ?_
  | with_reducible refine Z.w_orV ?_
  | with_reducible refine Z.w_notV ?_
  | with_reducible refine Z.w_ifV ?_
  | with_reducible refine Z.w_drop ?_
  | with_reducible refine Z.w_break ?_
  | with_reducible refine Z.w_cont ?_
  | with_reducible refine Z.w_gcons ?_
  | with_reducible refine Z.w_gnil ?_
  | with_reducible refine Z.w_for ?_
  | with_reducible refine Z.w_rng1 ?_
  | with_reducible refine Z.w_bits ?_
  | with_reducible refine Z.w_callN ?_
  | with_reducible refine Z.w_callS ?_
  | with_reducible refine Z.w_gcd ?_
  | with_reducible refine Z.w_dnew (fun d hd => ?_)
  | with_reducible refine Z.w_dput ?_
  | with_reducible refine Z.w_din ?_
  | with_reducible refine Z.w_dnin ?_
  | with_reducible refine Z.w_iTup ?_
  | with_reducible refine Z.w_iList ?_
  | with_reducible refine Z.w_lc ?_
  | with_reducible refine Z.w_yes ?_
  | ((with_reducible refine' ⟨_, rfl, ⟨_, ?wh⟩, ?_⟩); (case wh => walk_at "seq"))
  | with_reducible refine Z.w_ex1 ?_
  | ((with_reducible refine' Z.w_ixH ?wh ?wa ?_); (case wh => walk_at "hp"); (case wa => exact rfl))
  | ((with_reducible refine' Z.w_ixTH ?wh ?wa ?_); (case wh => walk_at "hp"); (case wa => exact rfl))
  | ((with_reducible refine' Z.w_gtupH ?wh ?wa ?_); (case wh => walk_at "hp"); (case wa => exact rfl))
  | ((with_reducible refine' Z.w_setLu ?wh ?wa ?_); (case wh => exact rfl); (case wa => (simp only [Int.reduceToNat, List.set_cons_zero, List.set_cons_succ] <;> rfl)))
  | ((with_reducible refine' Z.w_setLh ?wg ?wh ?wa ?_); (case wg => walk_at "hp"); (case wh => exact rfl); (case wa => (simp only [Int.reduceToNat, List.set_cons_zero, List.set_cons_succ] <;> rfl)))
  | ((with_reducible refine Z.w_rI ?wc ?_); (case wc => walk_at "cond"))
  | with_reducible refine Or.inl ⟨_, rfl, ?_⟩
  | with_reducible refine Or.inr ⟨_, rfl, ?_⟩
  | ((with_reducible refine' ⟨_, _, rfl, Or.inl ?wh, ?_⟩); (case wh => walk_at "seq"))
  | ((with_reducible refine' ⟨_, _, rfl, Or.inr ?wh, ?_⟩); (case wh => walk_at "seq"))
  | ((with_reducible refine' Z.w_ixL ?wh ?wa ?_); (case wh => assumption); (case wa => assumption))
  | with_reducible refine ⟨_, rfl, ?_⟩
  | with_reducible refine ⟨_, _, rfl, ?_⟩
  | ((with_reducible refine ⟨?wl, fun q hq' => ?_⟩); (case wl => exact Z.sz4 (by simp)))
  | with_reducible refine Z.w_ibT ?_
  | with_reducible refine Z.w_ibF ?_
  | with_reducible refine Z.w_ibNT ?_
  | with_reducible refine Z.w_ibNF ?_
  | ((with_reducible refine Z.w_iteT ?wh ?_); (case wh => walk_at "ar"))
  | ((with_reducible refine Z.w_iteF ?wh ?_); (case wh => walk_at "ar"))
  | ((with_reducible refine Z.w_iteNT ?wh ?_); (case wh => walk_at "ar"))
  | ((with_reducible refine Z.w_iteNF ?wh ?_); (case wh => walk_at "ar"))
  | with_reducible refine ⟨rfl, ?_⟩
  | ((with_reducible refine' Z.w_ixH ?wh ?wa ?_); (case wh => walk_at "hp"); (case wa => assumption))
  | ((with_reducible refine' Z.w_ixTH ?wh ?wa ?_); (case wh => walk_at "hp"); (case wa => assumption))
  | ((with_reducible refine' Z.w_ixL ?wh ?wa ?_); (case wh => walk_at "seq"); (case wa => assumption))
  | ((with_reducible refine' Z.w_ixT ?wh ?wa ?_); (case wh => walk_at "seq"); (case wa => assumption))
  | ((with_reducible refine Z.w_iteF ?wh ?_); (case wh => (intro h; cases h; done)))
  | ((with_reducible refine Z.w_iteT ?wh ?_); (case wh => exact rfl))
  | fail "w1")
local macro_rules | `(tactic| walk_at "wi") => `(tactic| first
  | with_reducible refine Z.w_ite (fun hc => ?_) (fun hc => ?_)
  | with_reducible refine Z.w_iteN (fun hc => ?_) (fun hc => ?_)
  | with_reducible refine Z.w_iteb (fun hc => ?_) (fun hc => ?_))
local macro_rules | `(tactic| walk_at "w") => `(tactic| repeat' walk_at "w1")
namespace X1
open PySem PySem.Spec PyProof.Rows L2
section
variable {X : Cx}
def rSAbs : V → Hp → VK → Prop := fun x H Q => ∃ (a : Addr) (kvs : List (Key × V)) (ks : List Int), x = .ref a ∧ Rd H a (.dK kvs) ∧ kvs.map (·.1) = ks.map Sum.inl ∧ ks.length ≤ 1000 ∧
  ∀ (ys : List Int) (p : Addr), ys.Perm ks → ys.Pairwise (fun i j => i.natAbs ≤ j.natAbs) → H p = none → Q (.ref p) (upd H p (.lst (ys.map V.int)))
def absK (x : Int) : Int := if x < 0 then -x else x
theorem each_ints {us : List Value} {ks : List Int} (h : IntsAre us ks) : PySem.W.EachIs (fun (v : Value) (x : Int) => ∃ t, v = Value.int x t) us ks := by
  induction h with
  | nil => exact .nil
  | cons n t _ ih => exact .cons ⟨t, rfl⟩ ih
theorem vals_each {out : List Value} {ys : List Int} (h : PySem.W.EachIs (fun (v : Value) (x : Int) => ∃ t, v = Value.int x t) out ys) : Vals (ys.map V.int) out := by
  induction h with
  | nil => exact .nil
  | cons r _ ih => exact .cons r ih
theorem sorted_abs_call {pins : List (Addr × Obj)} {s : Shared} {σ : L2.St} {H : Hp} {x : V} {u : Value} {Q : VK} (hcalm : X.calm = true) (hu : X.A.units + 64 < cLine) (I : Inv X pins σ H s) (r : RelV x u) (q : rSAbs x H Q) :
    wpAny (model X.prog X.w) X.A (call (.builtin "sorted") [u] [(Str.ofString "key", .builtin "abs")]) (EP X pins σ Q) X.xe s := by
  obtain ⟨a, kvs, ks, ex, hd, hks, h1000, q⟩ := q
  subst ex
  cases r
  obtain ⟨z, lo, vs, rel, dd⟩ := dk_rd I.hok hd
  obtain ⟨ep, hat⟩ := dd.dictAt
  have hkeys : vs.map (·.1) = ks.map Sum.inl := rel.keys.symm.trans hks
  have hl : vs.length = ks.length := by
    have e := congrArg List.length hkeys
    rw [List.length_map, List.length_map] at e
    exact e
  have h16 : vs.length ≤ sizeLine := by rw [hl, sizeLine_eq]; omega
  refine call_function_entry_kw kind_sorted plain_sorted entry_sorted (PyProof.Rows.ksk_s1 _ _) ?_
  unfold Builtin.«sorted»
  refine wpAny_bind (m := checkCount "sorted" 1 1 _) (wpAny_pure ?_)
  refine wpAny_bind (PySem.W.kdu_collect (A := X.A.in1) (PySem.W.kdl_dict (knd := mixKind X.prog X.w) (kvs := vs) (ep := ep) lo) (I.ok.hd hcalm) hat h16 fun h' tk acc hk hacc => ?_)
  have hal : acc.toList.length = ks.length := by rw [Array.length_toList, hacc.1, hl]
  have hS : IntsAre acc.toList ks := ints_each hal fun j v e => by
    obtain ⟨k, x, e1, e2⟩ := hacc.2 j v (by rw [← Array.getElem?_toList]; exact e)
    have e3 : (vs.map (·.1))[j]? = some k := by rw [List.getElem?_map, e1]; rfl
    rw [hkeys, List.getElem?_map] at e3
    cases e4 : ks[j]? with
    | none => rw [e4] at e3; cases e3
    | some y =>
      rw [e4] at e3
      have e5 : Sum.inl y = k := Option.some.inj e3
      subst e5
      rcases keyIs_shape (show keyIs (Sum.inl y) v = true from e2) with ⟨i, t, ek, ev⟩ | ⟨z, t, ek, ev⟩
      · cases ek
        exact ⟨y, t, rfl, ev⟩
      · cases ek
  have I1 : Inv X pins σ H { s with heap := h', toks := tk } := I.kept hk
  refine wpAny_bind (wpAny_newList ?_ (by rw [hal, sizeLine_eq]; omega))
  have hoL : (h'.push (seqObj "list" acc.toList.toArray 0)).get? h'.objs.size = some (seqObj "list" acc.toList.toArray 0) := Heap.get?_push_size _ rfl
  show wpAny _ _ _ _ _ { s with heap := h'.push (seqObj "list" acc.toList.toArray 0), toks := tk }
  refine wpAny_bind (wpAny_holding (wpAny_call_entry_kw PyProof.Rows.slot_list_sort ⟨_, hoL, rfl⟩ PyProof.Rows.entry_list_sort ?_ (PyProof.Rows.ksk_l1 _ _)))
  rw [PyProof.Rows.ksk_t4]
  have hE := each_ints hS
  have hkl : (ks.map fun x => PyData.int (absK x)).length = acc.toList.length := by rw [List.length_map, hal]
  refine PySem.W.keyH_tree (kz := ks.map fun x => PyData.int (absK x)) (s := { s with heap := h'.push (seqObj "list" acc.toList.toArray 0), toks := tk }) hoL hkl (by rw [hal, sizeLine_eq]; omega) ?_ (PySem.W.Sortable.others fun b => ⟨(fun z => by cases z), (fun xs z => by cases z)⟩) ?_
    (PySem.W.keyH_turns hE fun v x hR hx h tk kp => ?_) fun h3 tk3 out c kp hD ko => ⟨_, rfl, ?_⟩
  · intro d hd d' hd'
    obtain ⟨i, _, rfl⟩ := List.mem_map.mp hd
    obtain ⟨j, _, rfl⟩ := List.mem_map.mp hd'
    simp [PySem.W.alike]
  · intro d hd
    obtain ⟨i, _, rfl⟩ := List.mem_map.mp hd
    have e : X.A.in1.in1.units = X.A.units + 2 := rfl
    rw [e]
    have e2 : (PyData.int (absK i)).depth = 0 := by simp [PyData.depth]
    omega
  · obtain ⟨t, rfl⟩ := hR
    exact PyProof.Rows.call_abs_int fun u tk2 => ⟨h, tk2, rfl, fun _ _ e => e, Reads.int _ _⟩
  · have ke := PySem.W.keyedOut_each (fun x => PyData.int (absK x)) ko hE
    rw [PySem.W.dataLe_int absK] at ke
    have hp : (ks.mergeSort fun a b => decide (absK a ≤ absK b)).Perm ks := List.mergeSort_perm _ _
    have hs : (ks.mergeSort fun a b => decide (absK a ≤ absK b)).Pairwise (fun i j => i.natAbs ≤ j.natAbs) := by
      have p := List.pairwise_mergeSort (le := fun a b : Int => decide (absK a ≤ absK b)) (fun a b c h1 h2 => by
        simp only [decide_eq_true_eq] at h1 h2 ⊢
        omega) (fun a b => by
        simp only [Bool.or_eq_true, decide_eq_true_eq]
        omega) ks
      refine p.imp fun {i j} h => ?_
      have h' := of_decide_eq_true h
      unfold absK at h'
      split at h' <;> split at h' <;> omega
    generalize (ks.mergeSort fun a b => decide (absK a ≤ absK b)) = ys at ke hp hs
    have hlen : (ys.map V.int).length ≤ sizeLine := by
      rw [List.length_map, hp.length_eq, sizeLine_eq]
      omega
    refine wpAny_pure ⟨_, rfl, .ref h'.objs.size, upd H h'.objs.size (.lst (ys.map V.int)), I1.laid (t' := tk3) (fun b u e => ?_) (Nat.le_refl _)
      (show ObjOk X.prog X.w _ _ _ (.lst (ys.map V.int)) from ⟨hlen, out, c, vals_each ke, hD⟩), rfl, q ys _ hp hs (I1.hok.fresh (Nat.le_refl _))⟩
    exact kp b u (Nat.ne_of_lt (Heap.lt_size e)) (Heap.get?_push_of_some _ e)
/-- sorted(e, key=abs), e a dict with int keys -/
def rSAbs1 : List V → Hp → VK → Prop := fun vs H Q => ∃ x, vs = [x] ∧ rSAbs x H Q
def tSAbs (te : TE) : TE := fun σ H Q => tCons te tNil σ H fun vs H1 => rSAbs1 vs H1 Q
theorem pe_sortedAbs {e : Expr} {te : TE} {p p2 pos kpos : Pos} (hcalm : X.calm = true) (hu : X.A.units + 64 < cLine) (hg : Gl X "sorted") (hm : X.mg "sorted" = none) (hga : Gl X "abs") (hma : X.mg "abs" = none) (he : PE X e te)
    (hs : backTo pos (starEach [e] X.env) = (false, eval e X.env) :: backTo pos (starEach [] X.env) := by rfl) (hpl : (backTo pos (starEach [e] X.env)).any (·.1) = false := by rfl)
    (hall : (backToKw pos (keywordEach [⟨some "key", .Name "abs" p2, kpos⟩] X.env)).all (·.1.isSome) = true := by rfl) (hnone : (backToKw pos (keywordEach [⟨some "key", .Name "abs" p2, kpos⟩] X.env)).any (·.1.isNone) = false := by rfl)
    (hks : (backToKw pos (keywordEach [⟨some "key", .Name "abs" p2, kpos⟩] X.env)).filterMap (·.1) = [Str.ofString "key"] := by rfl)
    (hst : starEach (e :: []) X.env = (false, eval e X.env) :: starEach [] X.env := by rfl) :
    PE X (.Call (.Name "sorted" p) [e] [⟨some "key", .Name "abs" p2, kpos⟩] pos) (tSAbs te) := by
  have ha : PA X [e] (tCons te tNil) := pa_cons he pa_nil hst
  refine ⟨fun pins s σ H Q I h => ?_⟩
  refine wpAny_Call_Name_kw (ld_blt I hg hm (by decide +kernel : bootBuiltins "sorted" = some (.builtin "sorted")) ?_ (by decide) (by decide))
  refine PyProof.Rows.callWith_kw (thn (ha.run pos pins s σ H _ I h) fun us s1 ⟨vs, H1, I1, r1, x, ev, q1⟩ => ?_) hs hpl hall hnone
  subst ev
  obtain ⟨u, rfl, ru⟩ := vals1 r1
  show wpAny _ _ (evalAll ((do let v ← eval (.Name "abs" p2) X.env; standAt pos; pure v) :: [])) _ _ s1
  refine wpAny_evalAll_cons (wpAny_bind (ld_blt I1 hga hma (by decide +kernel : bootBuiltins "abs" = some (.builtin "abs")) (wpAny_bind (wpAny_standAt (wpAny_pure (wpAny_evalAll_nil ?_)))) (by decide) (by decide)))
  rw [hks]
  exact sorted_abs_call hcalm hu I1 ru q1
end
end X1

namespace L
open PySem PySem.Spec PyProof.Rows L2 Z
def topS (i : Nat) : Stmt := PySem.Challenge.pw_papersat_k17_clauses_and_resolve.main.body.getD i (.Pass ⟨0, 0, 0, 0⟩)
abbrev s_clause_of : Stmt := topS 1
abbrev N_clause_of : List Str := ["literals", "kept", "literal"]
theorem sc_clause_of : FnScope N_clause_of ["literals"] (defScope s_clause_of) := ⟨rfl, rfl, rfl, by decide +kernel, rfl, by decide +kernel, by decide +kernel⟩
abbrev s_resolve : Stmt := topS 2
abbrev N_resolve : List Str := ["clause", "literal", "other", "left", "each", "right"]
theorem sc_resolve : FnScope N_resolve ["clause", "literal", "other"] (defScope s_resolve) := ⟨rfl, rfl, rfl, by decide +kernel, rfl, by decide +kernel, by decide +kernel⟩
abbrev s_pool : Stmt := topS 4
abbrev N_pool : List Str := ["_law_script", "_law_k", "_law_cell", "_law_spare"]
theorem sc_pool : FnScope N_pool ["_law_script", "_law_k"] (defScope s_pool) := ⟨rfl, rfl, rfl, by decide +kernel, rfl, by decide +kernel, by decide +kernel⟩
abbrev s_take : Stmt := topS 5
abbrev N_take : List Str := ["_law_pool_here", "_law_size", "_law_k", "_law_cell", "_law_mixed"]
theorem sc_take : FnScope N_take ["_law_pool_here", "_law_size"] (defScope s_take) := ⟨rfl, rfl, rfl, by decide +kernel, rfl, by decide +kernel, by decide +kernel⟩
abbrev s_alike : Stmt := topS 6
abbrev N_alike : List Str := ["_law_told", "_law_due_here", "_law_k"]
theorem sc_alike : FnScope N_alike ["_law_told", "_law_due_here"] (defScope s_alike) := ⟨rfl, rfl, rfl, by decide +kernel, rfl, by decide +kernel, by decide +kernel⟩
abbrev s_chosen : Stmt := topS 7
abbrev N_chosen : List Str := ["_law_pool_here", "_law_nodes", "_law_last", "_law_wide", "_law_k"]
theorem sc_chosen : FnScope N_chosen ["_law_pool_here"] (defScope s_chosen) := ⟨rfl, rfl, rfl, by decide +kernel, rfl, by decide +kernel, by decide +kernel⟩
abbrev s_literals : Stmt := topS 8
abbrev N_literals : List Str := ["_law_pool_here", "_law_nodes", "_law_mode", "_law_many", "_law_signs", "_law_k", "_law_literals_here", "_law_at", "_law_sign", "_law_turned"]
theorem sc_literals : FnScope N_literals ["_law_pool_here", "_law_nodes"] (defScope s_literals) := ⟨rfl, rfl, rfl, by decide +kernel, rfl, by decide +kernel, by decide +kernel⟩
abbrev s_signed : Stmt := topS 9
abbrev N_signed : List Str := ["_law_signs", "_law_nodes", "_law_k"]
theorem sc_signed : FnScope N_signed ["_law_signs", "_law_nodes"] (defScope s_signed) := ⟨rfl, rfl, rfl, by decide +kernel, rfl, by decide +kernel, by decide +kernel⟩
abbrev s_two : Stmt := topS 10
abbrev N_two : List Str := ["_law_pool_here", "_law_nodes", "_law_mode", "_law_one", "_law_two_here", "_law_k", "_law_alone", "_law_place", "_law_sign", "_law_at"]
theorem sc_two : FnScope N_two ["_law_pool_here", "_law_nodes"] (defScope s_two) := ⟨rfl, rfl, rfl, by decide +kernel, rfl, by decide +kernel, by decide +kernel⟩
abbrev s_due : Stmt := topS 11
abbrev N_due : List Str := ["_law_literals_here", "_law_literal", "_law_due_here", "_law_size"]
theorem sc_due : FnScope N_due ["_law_literals_here"] (defScope s_due) := ⟨rfl, rfl, rfl, by decide +kernel, rfl, by decide +kernel, by decide +kernel⟩
abbrev s_holds : Stmt := topS 12
abbrev N_holds : List Str := ["_law_clause", "_law_nodes", "_law_row", "_law_literal"]
theorem sc_holds : FnScope N_holds ["_law_clause", "_law_nodes", "_law_row"] (defScope s_holds) := ⟨rfl, rfl, rfl, by decide +kernel, rfl, by decide +kernel, by decide +kernel⟩
abbrev s_list_told : Stmt := topS 13
abbrev N_list_told : List Str := ["_law_literals_here", "_law_due_here", "_law_passed"]
theorem sc_list_told : FnScope N_list_told ["_law_literals_here"] (defScope s_list_told) := ⟨rfl, rfl, rfl, by decide +kernel, rfl, by decide +kernel, by decide +kernel⟩
abbrev s_rest_told : Stmt := topS 14
abbrev N_rest_told : List Str := ["_law_nodes", "_law_clause", "_law_literal", "_law_other", "_law_due_here", "_law_one", "_law_told", "_law_k", "_law_row", "_law_j"]
theorem sc_rest_told : FnScope N_rest_told ["_law_nodes", "_law_clause", "_law_literal", "_law_other"] (defScope s_rest_told) := ⟨rfl, rfl, rfl, by decide +kernel, rfl, by decide +kernel, by decide +kernel⟩
abbrev s_law : Stmt := topS 15
abbrev N_law : List Str := ["_law_script", "_law_turn", "_law_nodes", "_law_literals_here", "_law_node", "_law_clause", "_law_other", "_law_literal"]
theorem sc_law : FnScope N_law ["_law_script"] (defScope s_law) := ⟨rfl, rfl, rfl, by decide +kernel, rfl, by decide +kernel, by decide +kernel⟩
structure Txt (K : PySem.W.Frag) (mg : Str → Option Value) : Type where
  f_clause_of : Addr
  fd_clause_of : FuncData
  F_clause_of : Fun K "clause_of" "clause_of" s_clause_of f_clause_of fd_clause_of
  b_clause_of : Binds K fd_clause_of ["literals"] []
  g_clause_of : mg "clause_of" = some (.ref f_clause_of)
  f_resolve : Addr
  fd_resolve : FuncData
  F_resolve : Fun K "resolve" "resolve" s_resolve f_resolve fd_resolve
  b_resolve : Binds K fd_resolve ["clause", "literal", "other"] []
  g_resolve : mg "resolve" = some (.ref f_resolve)
  f_pool : Addr
  fd_pool : FuncData
  F_pool : Fun K "_law_pool" "_law_pool" s_pool f_pool fd_pool
  b_pool : Binds K fd_pool ["_law_script", "_law_k"] []
  g_pool : mg "_law_pool" = some (.ref f_pool)
  f_take : Addr
  fd_take : FuncData
  F_take : Fun K "_law_take" "_law_take" s_take f_take fd_take
  b_take : Binds K fd_take ["_law_pool_here", "_law_size"] []
  g_take : mg "_law_take" = some (.ref f_take)
  f_alike : Addr
  fd_alike : FuncData
  F_alike : Fun K "_law_alike" "_law_alike" s_alike f_alike fd_alike
  b_alike : Binds K fd_alike ["_law_told", "_law_due_here"] []
  g_alike : mg "_law_alike" = some (.ref f_alike)
  f_chosen : Addr
  fd_chosen : FuncData
  F_chosen : Fun K "_law_chosen" "_law_chosen" s_chosen f_chosen fd_chosen
  b_chosen : Binds K fd_chosen ["_law_pool_here"] []
  g_chosen : mg "_law_chosen" = some (.ref f_chosen)
  f_literals : Addr
  fd_literals : FuncData
  F_literals : Fun K "_law_literals" "_law_literals" s_literals f_literals fd_literals
  b_literals : Binds K fd_literals ["_law_pool_here", "_law_nodes"] []
  g_literals : mg "_law_literals" = some (.ref f_literals)
  f_signed : Addr
  fd_signed : FuncData
  F_signed : Fun K "_law_signed" "_law_signed" s_signed f_signed fd_signed
  b_signed : Binds K fd_signed ["_law_signs", "_law_nodes"] []
  g_signed : mg "_law_signed" = some (.ref f_signed)
  f_two : Addr
  fd_two : FuncData
  F_two : Fun K "_law_two" "_law_two" s_two f_two fd_two
  b_two : Binds K fd_two ["_law_pool_here", "_law_nodes"] []
  g_two : mg "_law_two" = some (.ref f_two)
  f_due : Addr
  fd_due : FuncData
  F_due : Fun K "_law_due" "_law_due" s_due f_due fd_due
  b_due : Binds K fd_due ["_law_literals_here"] []
  g_due : mg "_law_due" = some (.ref f_due)
  f_holds : Addr
  fd_holds : FuncData
  F_holds : Fun K "_law_holds" "_law_holds" s_holds f_holds fd_holds
  b_holds : Binds K fd_holds ["_law_clause", "_law_nodes", "_law_row"] []
  g_holds : mg "_law_holds" = some (.ref f_holds)
  f_list_told : Addr
  fd_list_told : FuncData
  F_list_told : Fun K "_law_list_told" "_law_list_told" s_list_told f_list_told fd_list_told
  b_list_told : Binds K fd_list_told ["_law_literals_here"] []
  g_list_told : mg "_law_list_told" = some (.ref f_list_told)
  f_rest_told : Addr
  fd_rest_told : FuncData
  F_rest_told : Fun K "_law_rest_told" "_law_rest_told" s_rest_told f_rest_told fd_rest_told
  b_rest_told : Binds K fd_rest_told ["_law_nodes", "_law_clause", "_law_literal", "_law_other"] []
  g_rest_told : mg "_law_rest_told" = some (.ref f_rest_told)
  f_law : Addr
  fd_law : FuncData
  F_law : Fun K "law" "law" s_law f_law fd_law
  b_law : Binds K fd_law ["_law_script"] []
  g_law : mg "law" = some (.ref f_law)
  m_len : mg "len" = none
  m_int : mg "int" = none
  m_abs : mg "abs" = none
  m_isinstance : mg "isinstance" = none
  m_range : mg "range" = none
  m_bool : mg "bool" = none
  m_str : mg "str" = none
  m_list : mg "list" = none
  m_tuple : mg "tuple" = none
  m_sorted : mg "sorted" = none
end L

namespace L
open PySem PySem.Spec PyProof.Rows L2 Z
section
variable {P : Program} {w : World} {K : PySem.W.Frag} {mg : Str → Option Value} {base : Heap}
def spPool (K : PySem.W.Frag) : Sp := fun vs H Q _ => ∃ (a : Addr) (ns : List Int) (k : Int), vs = [.ref a, .int k] ∧ SqL K H a (ns.map V.int) ∧ ns.length ≤ 1000 ∧ 0 ≤ k ∧ k < 2 ^ 62 ∧ ∀ q o, H q = none → IsPool o → Q (.ref q) (upd H q o)
def spTake : Sp := fun vs H Q _ => ∃ (q : Addr) (o : HO) (n : Int), vs = [.ref q, .int n] ∧ H q = some o ∧ IsPool o ∧ 0 < n ∧ n < 1073741824 ∧ ∀ r o', 0 ≤ r → r < n → IsPool o' → Q (.int r) (upd H q o')
theorem ok_take (T : Txt K mg) : FnOk P w K mg base CX0 1 T.f_take T.fd_take ["_law_pool_here", "_law_size"] spTake := by
  refine T.F_take.ok sc_take (fun vs H Q E h => ?_) (fun cdv A outer s H vs Q E hr h => ?_)
  · obtain ⟨q, o, n, rfl, _⟩ := h
    rfl
  · obtain ⟨q, o, n, rfl, ho, ⟨c, k, b, s', rfl⟩, hn, hn2, hq⟩ := h
    refine ⟨_, (pss_cons (ps_set (i := 2) sc_take.nd rfl (.inl rfl) (pe_ix ix_list (pv 0) pe_int (fun _ _ => rfl)))
 (pss_cons (ps_asg (pe_op op_add (pv 2) pe_int) (pg_sub (pv 0) pe_int set_list))
 (pss_cons (ps_set (i := 3) sc_take.nd rfl (.inl rfl) (pe_ix ix_list (pv 0) pe_int (fun _ _ => rfl)))
 (pss_cons (ps_if (PW.pt (pw_and (pt_val (pe_ix ix_list (pv 0) pe_int (fun _ _ => rfl))) (pw_and1 (pt_cmpR op_gt (pv 3) pe_int (nomark _))))) (pss_cons (ps_asg (pe_op op_fdiv (pv 3) (pv 1)) (pg_sub (pv 0) pe_int set_list))
 (pss_one (ps_ret (pe_op op_mod (pe_callTy call_int1 (by rfl) T.m_int (by decide +kernel) (pa_cons (pv 3) pa_nil)) (pv 1))))) pss_nil)
 (pss_cons (ps_if (pt_val (pe_ix ix_list (pv 0) pe_int (fun _ _ => rfl))) (pss_one (ps_set (i := 3) sc_take.nd rfl (.inl rfl) (pe_ix ix_list (pv 0) pe_int (fun _ _ => rfl)))) pss_nil)
 (pss_cons (ps_set (i := 4) sc_take.nd rfl (.inl rfl) (pe_op op_mod (pe_callTy call_int1 (by rfl) T.m_int (by decide +kernel) (pa_cons (pe_op op_add (pe_op op_add (pv 3) (pe_op op_mul pe_int (pv 2))) pe_int) pa_nil)) pe_int))
 (pss_cons (ps_set (i := 4) sc_take.nd rfl (.inl rfl) (pe_op op_mod (pe_callTy call_int1 (by rfl) T.m_int (by decide +kernel) (pa_cons (pe_op op_mul (pv 4) (pe_op op_add (pv 4) pe_int)) pa_nil)) pe_int))
 (pss_cons (ps_set (i := 4) sc_take.nd rfl (.inl rfl) (pe_op op_mod (pe_callTy call_int1 (by rfl) T.m_int (by decide +kernel) (pa_cons (pe_op op_add (pe_op op_mul (pv 4) (pe_op op_add (pv 4) pe_int)) (pe_op op_mul pe_int (pv 2))) pa_nil)) pe_int))
 (pss_one (ps_ret (pe_op op_mod (pe_callTy call_int1 (by rfl) T.m_int (by decide +kernel) (pa_cons (pe_op op_fdiv (pv 4) pe_int) pa_nil)) (pv 1)))))))))))), ?_⟩
    refine Z.w_start (σ' := [some (.ref q), some (.int n), none, none, none]) rfl ?_
    walk_at "w"
    cases b with
    | true =>
      walk_at "w"
      walk_at "wi"
      all_goals walk_at "w"
      all_goals exact hq _ _ (Int.emod_nonneg _ (by omega)) (Int.emod_lt_of_pos _ hn) ⟨_, _, _, _, rfl⟩
    | false =>
      walk_at "w"
      all_goals exact hq _ _ (Int.emod_nonneg _ (by omega)) (Int.emod_lt_of_pos _ hn) ⟨_, _, _, _, rfl⟩
theorem ok_pool (T : Txt K mg) : FnOk P w K mg base CX0 1 T.f_pool T.fd_pool ["_law_script", "_law_k"] (spPool K) := by
  refine T.F_pool.ok sc_pool (fun vs H Q E h => ?_) (fun cdv A outer s H vs Q E hr h => ?_)
  · obtain ⟨a, ns, k, rfl, _⟩ := h
    rfl
  · obtain ⟨a, ns, k, rfl, hS, hl, hk, hk2, hq⟩ := h
    refine ⟨_, (pss_cons (ps_set (i := 2) sc_pool.nd rfl (.inl rfl) (pe_op op_add (pe_op op_mul pe_int (pv 1)) pe_int))
 (pss_cons (ps_set (i := 3) sc_pool.nd rfl (.inl rfl) (pe_op op_add (pe_op op_mul pe_int (pv 1)) pe_int))
 (pss_cons (ps_if (pt_cmpR op_lt (pv 1) (pe_callB call_len_seq (by rfl) T.m_len (by decide +kernel) (pa_cons (pv 0) pa_nil)) (nomark _)) (pss_one (ps_set (i := 2) sc_pool.nd rfl (.inl rfl) (pe_ix ix_list (pv 0) (pv 1) (fun _ _ => rfl)))) pss_nil)
 (pss_cons (ps_if (pt_cmpR op_lt (pe_op op_add (pv 1) pe_int) (pe_callB call_len_seq (by rfl) T.m_len (by decide +kernel) (pa_cons (pv 0) pa_nil)) (nomark _)) (pss_one (ps_set (i := 3) sc_pool.nd rfl (.inl rfl) (pe_ix ix_list (pv 0) (pe_op op_add (pv 1) pe_int) (fun _ _ => rfl)))) pss_nil)
 (pss_one (ps_ret (pe_lst (pa_cons (pv 2) (pa_cons pe_int (pa_cons (pe_cmpR op_ge (pv 2) (pe_op op_pow pe_int pe_int) (nomark _)) (pa_cons (pv 3) pa_nil))))))))))), ?_⟩
    refine Z.w_start (σ' := [some (.ref a), some (.int k), none, none]) rfl ?_
    by_cases h1 : k < ns.length
    · obtain ⟨z1, a1, _⟩ := pick hk h1
      by_cases h2 : k + 1 < ns.length
      · obtain ⟨z2, a2, _⟩ := pick (by omega) h2
        walk_at "w"
        exact hq _ _ (by assumption) ⟨_, _, _, _, rfl⟩
      · walk_at "w"
        exact hq _ _ (by assumption) ⟨_, _, _, _, rfl⟩
    · walk_at "w"
      exact hq _ _ (by assumption) ⟨_, _, _, _, rfl⟩
end
end L

namespace M
open PySem PySem.Spec PyProof.Rows L2
/-- strictly ascending by absolute values -/
def Asc (ys : List Int) : Prop := ys.Pairwise fun i j => i.natAbs < j.natAbs
theorem asc_uniq : ∀ ys zs : List Int, Asc ys → Asc zs → (∀ x, x ∈ ys ↔ x ∈ zs) → ys = zs
  | [], [], _, _, _ => rfl
  | [], z :: zs, _, _, h => absurd ((h z).mpr List.mem_cons_self) (by simp)
  | y :: ys, [], _, _, h => absurd ((h y).mp List.mem_cons_self) (by simp)
  | y :: ys, z :: zs, hy, hz, h => by
    obtain ⟨hy1, hy2⟩ := List.pairwise_cons.mp hy
    obtain ⟨hz1, hz2⟩ := List.pairwise_cons.mp hz
    have e : y = z := by
      rcases List.mem_cons.mp ((h y).mp List.mem_cons_self) with e | m
      · exact e
      · rcases List.mem_cons.mp ((h z).mpr List.mem_cons_self) with e | m2
        · exact e.symm
        · have a := hz1 y m
          have b := hy1 z m2
          omega
    subst e
    have t : ys = zs := asc_uniq ys zs hy2 hz2 fun x => by
      constructor
      · intro m
        rcases List.mem_cons.mp ((h x).mp (List.mem_cons_of_mem _ m)) with e | m2
        · have := hy1 x m
          rw [e] at this
          omega
        · exact m2
      · intro m
        rcases List.mem_cons.mp ((h x).mpr (List.mem_cons_of_mem _ m)) with e | m2
        · have := hz1 x m
          rw [e] at this
          omega
        · exact m2
    rw [t]
def Clash (ls : List Int) : Prop := ∃ l ∈ ls, -l ∈ ls
/-- the clause of a list -/
def ClOf (ls ys : List Int) : Prop := Asc ys ∧ ∀ x, x ∈ ys ↔ x ∈ ls
/-- nondecreasing and without a clash and twins -/
theorem asc_of {ys : List Int} (h : ys.Pairwise fun i j => i.natAbs ≤ j.natAbs) (hn : ys.Nodup) (hc : ¬ Clash ys) : Asc ys := by
  unfold Asc
  have h2 := h.and hn
  refine List.Pairwise.imp_of_mem ?_ h2
  intro a b ha hb ⟨h1, h3⟩
  rcases Nat.lt_or_ge a.natAbs b.natAbs with h4 | h4
  · exact h4
  · exfalso
    have : a = b ∨ a = -b := by omega
    rcases this with e | e
    · exact h3 e
    · exact hc ⟨b, hb, by rw [← e]; exact ha⟩
/-- a dict of kept ints -/
def kd (ks : List Int) : List (Key × V) := ks.map fun k => (Sum.inl k, V.bl true)
theorem kd_get (ks : List Int) (x : Int) : (valV (kd ks) (Sum.inl x)).isSome = decide (x ∈ ks) := by
  rw [← valV_any]
  unfold kd
  rw [List.any_map]
  induction ks with
  | nil => rfl
  | cons k r ih =>
    rw [List.any_cons, ih]
    simp only [Function.comp, List.mem_cons]
    by_cases h : k = x
    · subst h; simp
    · have h' : ¬ (Sum.inl k : Key) = Sum.inl x := fun z => h (Sum.inl.inj z)
      have h'' : ¬ x = k := fun z => h z.symm
      simp [h', h'']
theorem kd_keys (ks : List Int) : (kd ks).map (·.1) = ks.map Sum.inl := by
  unfold kd
  rw [List.map_map]
  rfl
theorem kd_len (ks : List Int) : (kd ks).length = ks.length := by
  unfold kd
  rw [List.length_map]
theorem kd_put (ks : List Int) (x : Int) : putK (kd ks) (Sum.inl x) (.bl true) = kd (if x ∈ ks then ks else ks ++ [x]) := by
  by_cases h : x ∈ ks
  · rw [if_pos h]
    unfold putK
    have e : (valV (kd ks) (Sum.inl x)).isSome = true := by rw [kd_get]; exact decide_eq_true h
    rw [valV_any, if_pos e]
    unfold kd
    rw [List.map_map]
    refine List.map_congr_left fun k _ => ?_
    simp only [Function.comp]
    split <;> rfl
  · rw [if_neg h, putK_new]
    · unfold kd
      rw [List.map_append]
      rfl
    · have e : (valV (kd ks) (Sum.inl x)).isSome = false := by rw [kd_get]; exact decide_eq_false h
      exact Option.isNone_iff_eq_none.mp (by rw [← Option.not_isSome, e]; rfl)
theorem inV_int (x : Int) (ls : List Int) : inV (.int x) (ls.map V.int) = decide (x ∈ ls) := by
  unfold inV
  rw [List.any_map]
  induction ls with
  | nil => rfl
  | cons k r ih =>
    rw [List.any_cons, ih]
    have e : eqV (.int k) (.int x) = decide (k = x) := by
      first | rfl | simp [eqV]
    simp only [Function.comp, e, List.mem_cons]
    by_cases h : k = x
    · subst h; simp
    · have h'' : ¬ x = k := fun z => h z.symm
      simp [h, h'']
theorem flat_ints (ls : List Int) : (ls.map V.int).all flatV = true := by
  rw [List.all_map]
  exact List.all_eq_true.mpr fun _ _ => rfl
/-- what is kept so far: the taken ones, each once, without a clash -/
def KeptI (ls : List Int) (i : Nat) (ks : List Int) : Prop := ks.Nodup ∧ (∀ x, x ∈ ks ↔ x ∈ ls.take i) ∧ ¬ Clash ks ∧ ks.length ≤ i
theorem kept_zero (ls : List Int) : KeptI ls 0 [] := ⟨List.nodup_nil, fun x => by simp, fun ⟨_, h, _⟩ => by simp at h, Nat.le_refl _⟩
theorem kept_next {ls ks : List Int} {i : Nat} {l : Int} (h : KeptI ls i ks) (hl : ls[i]? = some l) (h0 : l ≠ 0) (hc : -l ∉ ks) : KeptI ls (i + 1) (if l ∈ ks then ks else ks ++ [l]) := by
  obtain ⟨h1, h2, h3, h4⟩ := h
  have ht : ls.take (i + 1) = ls.take i ++ [l] := by rw [List.take_add_one, hl]; rfl
  by_cases hm : l ∈ ks
  · rw [if_pos hm]
    refine ⟨h1, fun x => ?_, h3, by omega⟩
    rw [ht, List.mem_append, h2 x]
    constructor
    · exact fun z => .inl z
    · rintro (z | z)
      · exact z
      · rw [List.mem_singleton.mp z]
        exact (h2 l).mp hm
  · rw [if_neg hm]
    refine ⟨?_, fun x => by rw [ht, List.mem_append, List.mem_append, h2 x], ?_, by rw [List.length_append, List.length_singleton]; omega⟩
    · rw [List.nodup_append]
      refine ⟨h1, List.nodup_cons.mpr ⟨by simp, List.nodup_nil⟩, fun a ha b hb e => ?_⟩
      rw [List.mem_singleton.mp hb] at e
      exact hm (e ▸ ha)
    · rintro ⟨x, hx, hx2⟩
      rcases List.mem_append.mp hx with a | a <;> rcases List.mem_append.mp hx2 with b | b
      · exact h3 ⟨x, a, b⟩
      · have e := List.mem_singleton.mp b
        have : x = -l := by omega
        rw [this] at a
        exact hc a
      · rw [List.mem_singleton.mp a] at b
        exact hc b
      · have e1 := List.mem_singleton.mp a
        have e2 := List.mem_singleton.mp b
        omega
end M
namespace M
open PySem PySem.Spec PyProof.Rows L2
/-- the due so far, by the sizes that were looked at -/
def DueI (ls ns : List Int) (i : Nat) (D : List Int) : Prop := Asc D ∧ (∀ x, x ∈ D ↔ x ∈ ls ∧ (x.natAbs : Int) ∈ ns.take i) ∧ D.length ≤ i
theorem due_zero (ls ns : List Int) : DueI ls ns 0 [] := ⟨List.Pairwise.nil, fun x => by simp, Nat.le_refl _⟩
theorem due_next {ls ns D : List Int} {i : Nat} {s lit : Int} (h : DueI ls ns i D) (hs : ns.Pairwise (· ≤ ·)) (hi : ns[i]? = some s) (hn : ∀ x ∈ ls, -x ∉ ls) (hl : lit ∈ ls) (ha : (lit.natAbs : Int) = s) :
    DueI ls ns (i + 1) (if lit ∈ D then D else D ++ [lit]) := by
  obtain ⟨h1, h2, h3⟩ := h
  have ht : ns.take (i + 1) = ns.take i ++ [s] := by rw [List.take_add_one, hi]; rfl
  have one : ∀ x ∈ ls, (x.natAbs : Int) = s → x = lit := by
    intro x hx e
    have : x = lit ∨ x = -lit := by omega
    rcases this with e | e
    · exact e
    · rw [e] at hx
      exact absurd hx (hn lit hl)
  have mem : ∀ x, (x ∈ ls ∧ (x.natAbs : Int) ∈ ns.take (i + 1)) ↔ (x ∈ D ∨ x = lit) := by
    intro x
    rw [ht, List.mem_append, List.mem_singleton, h2 x]
    constructor
    · rintro ⟨a, b | b⟩
      · exact .inl ⟨a, b⟩
      · exact .inr (one x a b)
    · rintro (⟨a, b⟩ | b)
      · exact ⟨a, .inl b⟩
      · rw [b]
        exact ⟨hl, .inr ha⟩
  by_cases hm : lit ∈ D
  · rw [if_pos hm]
    refine ⟨h1, fun x => ?_, by omega⟩
    rw [mem]
    constructor
    · exact .inl
    · rintro (a | a)
      · exact a
      · rw [a]
        exact hm
  · rw [if_neg hm]
    refine ⟨?_, fun x => ?_, by rw [List.length_append, List.length_singleton]; omega⟩
    · unfold Asc
      rw [List.pairwise_append]
      refine ⟨h1, List.pairwise_singleton _ _, fun x hx y hy => ?_⟩
      rw [List.mem_singleton.mp hy]
      obtain ⟨a, b⟩ := (h2 x).mp hx
      have p := hs.sublist (List.take_sublist (i + 1) ns)
      rw [ht, List.pairwise_append] at p
      have le := p.2.2 _ b s (List.mem_singleton.mpr rfl)
      have ne : (x.natAbs : Int) ≠ s := by
        intro e
        exact hm ((one x a e) ▸ hx)
      omega
    · rw [mem, List.mem_append, List.mem_singleton]
theorem due_end {ls ns D : List Int} (h : DueI ls ns ns.length D) (hp : ns.Perm (ls.map fun l : Int => (l.natAbs : Int))) : ClOf ls D := by
  refine ⟨h.1, fun x => ?_⟩
  rw [h.2.1, List.take_length]
  constructor
  · exact fun z => z.1
  · exact fun z => ⟨z, hp.mem_iff.mpr (List.mem_map.mpr ⟨x, z, rfl⟩)⟩
end M

namespace L
open PySem PySem.Spec PyProof.Rows L2 Z M
section
variable {P : Program} {w : World} {K : PySem.W.Frag} {mg : Str → Option Value} {base : Heap}
/-- None of a clash; else a tuple of the clause -/
def Res (ls : List Int) (v : V) (H : Hp) : Prop := (Clash ls ∧ v = .non) ∨ (¬ Clash ls ∧ ∃ (t : Addr) (ys : List Int), v = .ref t ∧ ClOf ls ys ∧ ys.length ≤ ls.length ∧ H t = some (.tup (ys.map V.int)))
theorem Res.mono {ls : List Int} {v : V} {H H' : Hp} (h : Res ls v H) (s : Same H H') : Res ls v H' := by
  rcases h with h | ⟨h1, t, ys, h2, h3, h4, h5⟩
  · exact .inl h
  · exact .inr ⟨h1, t, ys, h2, h3, h4, s _ _ h5⟩
def ClEnd (ls : List Int) (H : Hp) (Q : VK) : Prop := ∀ v H', Same H H' → Res ls v H' → Q v H'
def spClause (K : PySem.W.Frag) (b : Bool) : Sp := fun vs H Q _ => ∃ (a : Addr) (ls : List Int), vs = [.ref a] ∧ (if b then SqL K H a (ls.map V.int) else SqT K H a (ls.map V.int)) ∧ ls.length ≤ 100 ∧ (∀ l ∈ ls, l ≠ 0) ∧ ClEnd ls H Q
theorem clause_tail {ls ks : List Int} {H H1 : Hp} {Q : VK} {d : Addr} (he : ClEnd ls H Q) (hk : KeptI ls ls.length ks) (sm : Same H H1) (hd : H1 d = some (.dK (kd ks))) (hl : ls.length ≤ 100) :
    X1.rSAbs1 [.ref d] H1 fun x H2 => ∃ (p : Addr) (ys : List V), [x] = [V.ref p] ∧ (((SqL K H2 p ys) ∧ ∀ l, H2 l = none → Q (.ref l) (upd H2 l (.tup ys))) ∨ (SqT K H2 p ys ∧ Q (.ref p) H2)) := by
  obtain ⟨h1, h2, h3, h4⟩ := hk
  have hc : ¬ Clash ls := fun ⟨x, hx, hx2⟩ => h3 ⟨x, (h2 x).mpr (by rw [List.take_length]; exact hx), (h2 _).mpr (by rw [List.take_length]; exact hx2)⟩
  refine ⟨_, rfl, d, kd ks, ks, rfl, .inl hd, kd_keys ks, by omega, fun ys p hp hs hn => ⟨p, ys.map V.int, rfl, .inl ⟨.inl (.inl upd_same), fun t ht => ?_⟩⟩⟩
  have hnd : ys.Nodup := hp.symm.nodup_iff.mp h1 |> fun z => by exact (hp.nodup_iff).mpr h1
  have hcl : ¬ Clash ys := fun ⟨x, hx, hx2⟩ => h3 ⟨x, hp.mem_iff.mp hx, hp.mem_iff.mp hx2⟩
  obtain ⟨ne, hf⟩ := fresh_of ht
  refine he (.ref t) _ ?_ (.inr ⟨hc, t, ys, rfl, ⟨asc_of hs hnd hcl, fun x => ?_⟩, ?_, upd_same⟩)
  · exact same_of (same_of sm hn) ht
  · rw [hp.mem_iff, h2 x, List.take_length]
  · rw [hp.length_eq]
    exact h4
theorem ok_clause_t (T : Txt K mg) : FnOk P w K mg base CX0 1 T.f_clause_of T.fd_clause_of ["literals"] (spClause K false) := by
  refine T.F_clause_of.ok sc_clause_of (fun vs H Q E h => ?_) (fun cdv A outer s H vs Q E hr h => ?_)
  · obtain ⟨a, ls, rfl, _⟩ := h
    rfl
  · obtain ⟨a, ls, rfl, hS, hl, h0, he⟩ := h
    rw [if_neg (by decide)] at hS
    refine ⟨_, (pss_cons (ps_set (i := 1) sc_clause_of.nd rfl (.inl rfl) pe_dnewK)
 (pss_cons (ps_for PassesOwn.never rfl (pi_tup (pv 0)) (pg_name (i := 2) sc_clause_of.nd rfl (.inl rfl)) (pss_cons (ps_if (pt_cmp (pc_din (hu_of hr) (pe_un un_neg (pv 2)) (pv 1))) (pss_one (ps_ret pe_non)) pss_nil)
 (pss_one (ps_dput (hu_of hr) (pv 1) (pv 2) pe_bl rfl))))
 (pss_one (ps_ret (pe_callTy call_tuple_of (by rfl) T.m_tuple (by decide +kernel) (pa_cons (X1.pe_sortedAbs rfl hr.units (by rfl) T.m_sorted (by rfl) T.m_abs (pv 1)) pa_nil)))))), ?_⟩
    refine Z.w_start (σ' := [some (.ref a), none, none]) rfl ?_
    walk_at "w"
    rename_i d hd
    refine for_tup (xs := ls.map V.int) (fun i σ H' => ∃ (x2 : Option V) (ks : List Int), σ = [some (.ref a), some (.ref d), x2] ∧ Same H H' ∧ H' d = some (.dK (kd ks)) ∧ KeptI ls i ks ∧ i ≤ ls.length) ?_ ?_ ?_ ?_
    · exact ⟨_, [], rfl, same_of (Same.refl _) hd, upd_same, kept_zero _, Nat.zero_le _⟩
    · rintro i σ H' _ ⟨x2, ks, rfl, sm, hdk, hk, hi⟩
      exact Evl.ex_t sm hS
    · rintro i x σ H' hx ⟨x2, ks, rfl, sm, hdk, hk, hi⟩
      rw [List.getElem?_map] at hx
      cases hxi : ls[i]? with
      | none => rw [hxi] at hx; cases hx
      | some l =>
        rw [hxi] at hx
        obtain rfl : V.int l = x := Option.some.inj hx
        have hlm : l ∈ ls := List.mem_of_getElem? hxi
        have hil : i < ls.length := (List.getElem?_eq_some_iff.mp hxi).1
        walk_at "w"
        refine ⟨d, _, rfl, DGet.k (k := Sum.inl (-l)) hdk, ?_⟩
        rw [kd_get]
        walk_at "w"
        walk_at "wi"
        · rename_i hc
          walk_at "w"
          exact he _ _ sm (.inl ⟨⟨l, hlm, List.mem_of_mem_take ((hk.2.1 _).mp hc)⟩, rfl⟩)
        · rename_i hc
          walk_at "w"
          refine ⟨d, _, rfl, DPut.k (k := Sum.inl l) hdk (by rw [kd_len]; exact Nat.lt_of_le_of_lt (Nat.le_trans hk.2.2.2 (by omega)) (show 100 < sizeLine by decide)), ?_⟩
          refine ⟨_, _, rfl, same_mut sm hd, ?_, kept_next hk hxi (h0 l hlm) hc, hil⟩
          rw [upd_same, kd_put]
    · rintro σ H' ⟨x2, ks, rfl, sm, hdk, hk, hi⟩
      rw [List.length_map] at hk
      walk_at "w"
      show tCons (tVar 1) tNil _ _ _
      walk_at "w"
      exact clause_tail he hk sm hdk hl
theorem ok_clause_l (T : Txt K mg) : FnOk P w K mg base CX0 1 T.f_clause_of T.fd_clause_of ["literals"] (spClause K true) := by
  refine T.F_clause_of.ok sc_clause_of (fun vs H Q E h => ?_) (fun cdv A outer s H vs Q E hr h => ?_)
  · obtain ⟨a, ls, rfl, _⟩ := h
    rfl
  · obtain ⟨a, ls, rfl, hS, hl, h0, he⟩ := h
    rw [if_pos rfl] at hS
    refine ⟨_, (pss_cons (ps_set (i := 1) sc_clause_of.nd rfl (.inl rfl) pe_dnewK)
 (pss_cons (ps_for PassesOwn.never rfl (pi_list (pv 0)) (pg_name (i := 2) sc_clause_of.nd rfl (.inl rfl)) (pss_cons (ps_if (pt_cmp (pc_din (hu_of hr) (pe_un un_neg (pv 2)) (pv 1))) (pss_one (ps_ret pe_non)) pss_nil)
 (pss_one (ps_dput (hu_of hr) (pv 1) (pv 2) pe_bl rfl))))
 (pss_one (ps_ret (pe_callTy call_tuple_of (by rfl) T.m_tuple (by decide +kernel) (pa_cons (X1.pe_sortedAbs rfl hr.units (by rfl) T.m_sorted (by rfl) T.m_abs (pv 1)) pa_nil)))))), ?_⟩
    refine Z.w_start (σ' := [some (.ref a), none, none]) rfl ?_
    walk_at "w"
    rename_i d hd
    refine for_list (xs := ls.map V.int) (fun i σ H' => ∃ (x2 : Option V) (ks : List Int), σ = [some (.ref a), some (.ref d), x2] ∧ Same H H' ∧ H' d = some (.dK (kd ks)) ∧ KeptI ls i ks ∧ i ≤ ls.length) ?_ ?_ ?_ ?_
    · exact ⟨_, [], rfl, same_of (Same.refl _) hd, upd_same, kept_zero _, Nat.zero_le _⟩
    · rintro i σ H' _ ⟨x2, ks, rfl, sm, hdk, hk, hi⟩
      exact Evl.ex_l sm hS
    · rintro i x σ H' hx ⟨x2, ks, rfl, sm, hdk, hk, hi⟩
      rw [List.getElem?_map] at hx
      cases hxi : ls[i]? with
      | none => rw [hxi] at hx; cases hx
      | some l =>
        rw [hxi] at hx
        obtain rfl : V.int l = x := Option.some.inj hx
        have hlm : l ∈ ls := List.mem_of_getElem? hxi
        have hil : i < ls.length := (List.getElem?_eq_some_iff.mp hxi).1
        walk_at "w"
        refine ⟨d, _, rfl, DGet.k (k := Sum.inl (-l)) hdk, ?_⟩
        rw [kd_get]
        walk_at "w"
        walk_at "wi"
        · rename_i hc
          walk_at "w"
          exact he _ _ sm (.inl ⟨⟨l, hlm, List.mem_of_mem_take ((hk.2.1 _).mp hc)⟩, rfl⟩)
        · rename_i hc
          walk_at "w"
          refine ⟨d, _, rfl, DPut.k (k := Sum.inl l) hdk (by rw [kd_len]; exact Nat.lt_of_le_of_lt (Nat.le_trans hk.2.2.2 (by omega)) (show 100 < sizeLine by decide)), ?_⟩
          refine ⟨_, _, rfl, same_mut sm hd, ?_, kept_next hk hxi (h0 l hlm) hc, hil⟩
          rw [upd_same, kd_put]
    · rintro σ H' ⟨x2, ks, rfl, sm, hdk, hk, hi⟩
      rw [List.length_map] at hk
      walk_at "w"
      show tCons (tVar 1) tNil _ _ _
      walk_at "w"
      exact clause_tail he hk sm hdk hl
theorem use_clause_l {a : Addr} {ls : List Int} {H : Hp} {Q : VK} {E : XK} (h : SqL K H a (ls.map V.int)) (h1 : ls.length ≤ 100) (h2 : ∀ l ∈ ls, l ≠ 0) (he : ClEnd ls H Q) : spClause K true [.ref a] H Q E := ⟨a, ls, rfl, by rw [if_pos rfl]; exact h, h1, h2, he⟩
theorem use_clause_t {a : Addr} {ls : List Int} {H : Hp} {Q : VK} {E : XK} (h : SqT K H a (ls.map V.int)) (h1 : ls.length ≤ 100) (h2 : ∀ l ∈ ls, l ≠ 0) (he : ClEnd ls H Q) : spClause K false [.ref a] H Q E := ⟨a, ls, rfl, by rw [if_neg (by decide)]; exact h, h1, h2, he⟩
theorem w_inT {p : Addr} {x : Int} {ls : List Int} {H : Hp} {Q : VK} (h : SqT K H p (ls.map V.int)) (q : Q (.bl (decide (x ∈ ls))) H) : rIn K false (.int x) (.ref p) H Q := w_opin (.inr h) rfl (flat_ints ls) (by rw [inV_int]; exact q)
theorem w_ninT {p : Addr} {x : Int} {ls : List Int} {H : Hp} {Q : VK} (h : SqT K H p (ls.map V.int)) (q : Q (.bl (!decide (x ∈ ls))) H) : rIn K true (.int x) (.ref p) H Q := w_opin (.inr h) rfl (flat_ints ls) (by rw [inV_int]; exact q)
theorem w_inL {p : Addr} {x : Int} {ls : List Int} {H : Hp} {Q : VK} (h : SqL K H p (ls.map V.int)) (q : Q (.bl (decide (x ∈ ls))) H) : rIn K false (.int x) (.ref p) H Q := w_opin (.inl h) rfl (flat_ints ls) (by rw [inV_int]; exact q)
theorem w_ninL {p : Addr} {x : Int} {ls : List Int} {H : Hp} {Q : VK} (h : SqL K H p (ls.map V.int)) (q : Q (.bl (!decide (x ∈ ls))) H) : rIn K true (.int x) (.ref p) H Q := w_opin (.inl h) rfl (flat_ints ls) (by rw [inV_int]; exact q)
end
end L

local macro_rules | `(tactic| walk_at "w1") => `(tactic| first
  | ((with_reducible refine' L.w_inT ?wh ?_); (case wh => walk_at "seq"))
  | ((with_reducible refine' L.w_ninT ?wh ?_); (case wh => walk_at "seq"))
  | ((with_reducible refine' L.w_inL ?wh ?_); (case wh => walk_at "seq"))
  | ((with_reducible refine' L.w_ninL ?wh ?_); (case wh => walk_at "seq"))
  | with_reducible refine Z.w_bm ?_
  | with_reducible refine Z.w_bm0 ?_
  | ((with_reducible refine' Z.w_rev ?wh ?_); (case wh => walk_at "hp"))
  | ((with_reducible refine' Z.w_tyL ?wh ?_); (case wh => walk_at "hp"))
  | ((with_reducible refine' Z.w_app ?wh ?wl ?_); (case wh => walk_at "hp"); (case wl => (simp only [List.length_map]; omega)))
  | fail "w1")

namespace L
open PySem PySem.Spec PyProof.Rows L2 Z M
section
variable {P : Program} {w : World} {K : PySem.W.Frag} {mg : Str → Option Value} {base : Heap}
def rest (c : List Int) (l : Int) (o : List Int) : List Int := c.filter (fun x => !decide (x = l)) ++ o.filter (fun x => !decide (x = -l))
def spResolve (K : PySem.W.Frag) : Sp := fun vs H Q _ => ∃ (a b : Addr) (c o : List Int) (l : Int), vs = [.ref a, .int l, .ref b] ∧ SqT K H a (c.map V.int) ∧ SqT K H b (o.map V.int) ∧ c.length ≤ 20 ∧ o.length ≤ 20 ∧ (∀ x ∈ c, x ≠ 0) ∧ (∀ x ∈ o, x ≠ 0) ∧
  ((l ∉ c ∨ -l ∉ o) → Q .non H) ∧ (l ∈ c → -l ∈ o → ClEnd (rest c l o) H Q)
/-- a comprehension that keeps the unlike ones -/
theorem lc_keep {a D : Addr} {c : List Int} {l : Int} {g : TG} {tt : TT} {te : TE} {ivs : List Nat} {σ : L2.St} {H : Hp} {Qd : Hp → Prop} (hS : SqT K H a (c.map V.int)) (hD : H D = none) (hc : c.length ≤ 20)
    (hd : ∀ H', Same H H' → H' D = some (.lst ((c.filter fun x => !decide (x = l)).map V.int)) → Qd H')
    (hs : ∀ (x : Int) (H' : Hp) (R : L2.St → Hp → Prop), (∀ σ2, wipe σ2 ivs = wipe σ ivs → (∀ (Q : VK), Q (.int x) H' → te σ2 H' Q) → (∀ (R : Bool → Hp → Prop), R (!decide (x = l)) H' → tt σ2 H' R) → R σ2 H') → g (.int x) (wipe σ ivs) H' R) :
    ∃ W : Nat → Nat → Hp → Prop, (∃ m, W 0 m (upd H D (.lst []))) ∧ ∀ i m H, W i m H →
      ((Itt K a).stop i H ∧ Qd H) ∨ ((Itt K a).go i H ∧ ∃ Nx : Hp → Prop, (∀ H', Nx H' → ∃ m', m' < m ∧ W (i + 1) m' H') ∧ ∀ x H', (Itt K a).yld i H x H' → g x (wipe σ ivs) H' fun σ2 H2 => wipe σ2 ivs = wipe σ ivs ∧ tt σ2 H2 fun b H3 =>
        if b = true then te σ2 H3 fun y H4 => ∃ acc, H4 D = some (.lst acc) ∧ acc.length < sizeLine ∧ Nx (upd H4 D (.lst (acc ++ [y]))) else Nx H3) := by
  refine lc_tup (xs := c.map V.int) (fun i H' => Same H H' ∧ H' D = some (.lst (((c.take i).filter fun x => !decide (x = l)).map V.int)) ∧ i ≤ c.length) ?_ ?_ ?_ ?_
  · exact ⟨same_of (Same.refl _) hD, upd_same, Nat.zero_le _⟩
  · intro i H' _ h
    exact Evl.ex_t h.1 hS
  · intro i x H' hx ⟨sm, he, hi⟩
    rw [List.getElem?_map] at hx
    cases hxi : c[i]? with
    | none => rw [hxi] at hx; cases hx
    | some z =>
      rw [hxi] at hx
      obtain rfl : V.int z = x := Option.some.inj hx
      have hil : i < c.length := (List.getElem?_eq_some_iff.mp hxi).1
      have ht : c.take (i + 1) = c.take i ++ [z] := by rw [List.take_add_one, hxi]; rfl
      refine hs z H' _ fun σ2 e1 e3 e4 => ⟨e1, e4 _ ?_⟩
      by_cases hz : ¬ z = l
      · rw [if_pos (by simp [hz])]
        refine e3 _ ⟨_, he, ?_, same_mut sm hD, ?_, hil⟩
        · rw [List.length_map]
          refine Nat.lt_of_le_of_lt (Nat.le_trans (List.length_filter_le _ _) ?_) (show 1000 < sizeLine by decide)
          rw [List.length_take]
          omega
        · rw [upd_same, ht, List.filter_append, List.map_append]
          simp [hz]
      · have hz' : z = l := Decidable.not_not.mp hz
        rw [if_neg (by simp [hz'])]
        refine ⟨sm, ?_, hil⟩
        rw [he, ht, List.filter_append, List.map_append]
        simp [hz]
  · intro H' ⟨sm, he, _⟩
    rw [List.length_map, List.take_length] at he
    exact hd H' sm he
theorem _root_.L2.Same.toT {H H' : Hp} {a : Addr} {xs : List V} (s : Same H H') (h : SqT K H a xs) : SqT K H' a xs := Evl.ex_t s h
theorem ok_resolve (T : Txt K mg) : FnOk P w K mg base CX0 2 T.f_resolve T.fd_resolve ["clause", "literal", "other"] (spResolve K) := by
  have G_clause_of := ok_clause_l (P := P) (w := w) (base := base) T
  refine T.F_resolve.ok sc_resolve (fun vs H Q E h => ?_) (fun cdv A outer s H vs Q E hr h => ?_)
  · obtain ⟨a, b, c, o, l, rfl, _⟩ := h
    rfl
  · obtain ⟨a, b, c, o, l, rfl, hA, hB, hc, ho, c0, o0, h1, h2⟩ := h
    refine ⟨_, (pss_cons (ps_if (PW.pt (pw_or (pt_cmpR op_notIn_seq (pv 1) (pv 0) rfl) (pw_or1 (pt_cmpR op_notIn_seq (pe_un un_neg (pv 1)) (pv 2) rfl)))) (pss_one (ps_ret pe_non)) pss_nil)
 (pss_cons (ps_setLc (i := 3) (own := [("each", 4)]) (g := gName 4) (by rfl) sc_resolve.nd rfl rfl (sw_true rfl rfl rfl (by decide +kernel)) (pi_tup (pv 0)) (blkOk_by (own := [("each", 4)]) (N := N_resolve) (sc := defScope s_resolve) (by decide +kernel)) (fun _ _ _ _ _ => pg_name (i := 4) sc_resolve.nd rfl (Or.inl rfl)) (fun _ _ _ _ _ => pts_one (pt_cmpR op_ne (pv 4) (pv 1) (nomark _))) (fun _ _ _ _ _ => (pv 4)))
 (pss_cons (ps_setLc (i := 5) (own := [("each", 4)]) (g := gName 4) (by rfl) sc_resolve.nd rfl rfl (sw_true rfl rfl rfl (by decide +kernel)) (pi_tup (pv 2)) (blkOk_by (own := [("each", 4)]) (N := N_resolve) (sc := defScope s_resolve) (by decide +kernel)) (fun _ _ _ _ _ => pg_name (i := 4) sc_resolve.nd rfl (Or.inl rfl)) (fun _ _ _ _ _ => pts_one (pt_cmpR op_ne (pv 4) (pe_un un_neg (pv 1)) (nomark _))) (fun _ _ _ _ _ => (pv 4)))
 (pss_one (ps_ret (pe_call G_clause_of (hr.mono (by decide)) (by rfl) T.g_clause_of T.F_clause_of.kp T.b_clause_of .nil pass0 (pa_cons (pe_op op_cat (pv 3) (pv 5)) pa_nil))))))), ?_⟩
    refine Z.w_start (σ' := [some (.ref a), some (.int l), some (.ref b), none, none, none]) rfl ?_
    walk_at "w"
    walk_at "wi"
    · rename_i hn
      walk_at "w"
      exact h1 (.inl hn)
    · rename_i hy
      walk_at "w"
      walk_at "wi"
      · rename_i hn
        walk_at "w"
        exact h1 (.inr hn)
      · rename_i hy2
        walk_at "w"
        refine fun D1 hD1 => lc_keep (l := l) hA hD1 hc (fun H1 s1 e1 => ?_) fun x H' R k => ?_
        case refine_2 =>
          refine Z.w_gname (σ' := [some (.ref a), some (.int l), some (.ref b), none, some (.int x), none]) rfl ?_
          refine k _ rfl (fun Q q => ⟨_, rfl, q⟩) fun R q => ?_
          walk_at "w"
          exact q
        walk_at "w"
        refine fun D2 hD2 => lc_keep (l := -l) (s1.toT hB) hD2 ho (fun H2 s2 e2 => ?_) fun x H' R k => ?_
        case refine_2 =>
          refine Z.w_gname (σ' := [some (.ref a), some (.int l), some (.ref b), some (.ref D1), some (.int x), none]) rfl ?_
          refine k _ rfl (fun Q q => ⟨_, rfl, q⟩) fun R q => ?_
          walk_at "w"
          exact q
        walk_at "w"
        have l1 : (c.filter fun x => !decide (x = l)).length ≤ 20 := Nat.le_trans (List.length_filter_le _ _) hc
        have l2 : (o.filter fun x => !decide (x = -l)).length ≤ 20 := Nat.le_trans (List.length_filter_le _ _) ho
        refine ⟨D1, D2, _, _, rfl, rfl, s2 _ _ e1, e2, ?_, fun p hp => ?_⟩
        · rw [List.length_map, List.length_map]
          exact sz4 (by omega)
        walk_at "w"
        rw [← List.map_append]
        refine use_clause_l (.inl (.inl upd_same)) ?_ ?_ ?_
        · rw [List.length_append]
          omega
        · intro x hx
          rcases List.mem_append.mp hx with h | h
          · exact c0 x (List.mem_filter.mp h).1
          · exact o0 x (List.mem_filter.mp h).1
        · exact fun v H' s3 hr => h2 hy hy2 v H' (((s1.trans s2).trans (same_of (Same.refl _) hp)).trans s3) hr
theorem use_resolve {a b : Addr} {c o : List Int} {l : Int} {H : Hp} {Q : VK} {E : XK} (h1 : SqT K H a (c.map V.int)) (h2 : SqT K H b (o.map V.int)) (h3 : c.length ≤ 20) (h4 : o.length ≤ 20) (h5 : ∀ x ∈ c, x ≠ 0) (h6 : ∀ x ∈ o, x ≠ 0)
    (h7 : (l ∉ c ∨ -l ∉ o) → Q .non H) (h8 : l ∈ c → -l ∈ o → ClEnd (rest c l o) H Q) : spResolve K [.ref a, .int l, .ref b] H Q E := ⟨a, b, c, o, l, rfl, h1, h2, h3, h4, h5, h6, h7, h8⟩
end
end L

namespace L
open PySem PySem.Spec PyProof.Rows L2 Z M
section
variable {P : Program} {w : World} {K : PySem.W.Frag} {mg : Str → Option Value} {base : Heap}
def spAlike0 : Sp := fun vs H Q _ => ∃ i : Int, vs = [.int i, .int i] ∧ Q (.bl true) H
theorem ok_alike0 (T : Txt K mg) : FnOk P w K mg base CX0 1 T.f_alike T.fd_alike ["_law_told", "_law_due_here"] spAlike0 := by
  have G_alike : FnOk P w K mg base CX0 0 T.f_alike T.fd_alike ["_law_told", "_law_due_here"] (fun _ _ _ _ => False) := ⟨fun _ _ _ _ h => h.elim, fun _ _ _ _ _ _ _ _ _ _ _ _ _ h => h.elim⟩
  refine T.F_alike.ok sc_alike (fun vs H Q E h => ?_) (fun cdv A outer s H vs Q E hr h => ?_)
  · obtain ⟨i, rfl, _⟩ := h
    rfl
  · obtain ⟨i, rfl, hq⟩ := h
    refine ⟨_, (pss_cons (ps_if (pt_cmpR op_isN (pv 1) pe_non (nomark _)) (pss_one (ps_ret (pe_cmpR op_isN (pv 0) pe_non (nomark _)))) pss_nil)
 (pss_cons (ps_if (pt_val (pe_callB call_isi (by rfl) T.m_isinstance (by decide +kernel) (pa_cons (pv 1) (pa_cons (pe_bltn (v := .ty "bool") (by rfl) T.m_bool (by decide +kernel) rfl) pa_nil)))) (pss_one (ps_ret (pe_and (pe_callB call_isi (by rfl) T.m_isinstance (by decide +kernel) (pa_cons (pv 0) (pa_cons (pe_bltn (v := .ty "bool") (by rfl) T.m_bool (by decide +kernel) rfl) pa_nil))) (pe_one (pe_cmpR op_eq (pv 0) (pv 1) (nomark _)))))) pss_nil)
 (pss_cons (ps_if (pt_val (pe_callB call_isi (by rfl) T.m_isinstance (by decide +kernel) (pa_cons (pv 1) (pa_cons (pe_bltn (v := .ty "int") (by rfl) T.m_int (by decide +kernel) rfl) pa_nil)))) (pss_one (ps_ret (pe_and (pe_callB call_isi (by rfl) T.m_isinstance (by decide +kernel) (pa_cons (pv 0) (pa_cons (pe_bltn (v := .ty "int") (by rfl) T.m_int (by decide +kernel) rfl) pa_nil))) (pe_and (pe_not (pe_callB call_isi (by rfl) T.m_isinstance (by decide +kernel) (pa_cons (pv 0) (pa_cons (pe_bltn (v := .ty "bool") (by rfl) T.m_bool (by decide +kernel) rfl) pa_nil)))) (pe_one (pe_cmpR op_eq (pv 0) (pv 1) (nomark _))))))) pss_nil)
 (pss_cons (ps_if (pt_val (pe_callB call_isi (by rfl) T.m_isinstance (by decide +kernel) (pa_cons (pv 1) (pa_cons (pe_bltn (v := .ty "str") (by rfl) T.m_str (by decide +kernel) rfl) pa_nil)))) (pss_one (ps_ret (pe_and (pe_callB call_isi (by rfl) T.m_isinstance (by decide +kernel) (pa_cons (pv 0) (pa_cons (pe_bltn (v := .ty "str") (by rfl) T.m_str (by decide +kernel) rfl) pa_nil))) (pe_one (pe_cmpR op_eq (pv 0) (pv 1) (nomark _)))))) pss_nil)
 (pss_cons (ps_if (PW.pt (pw_and (pt_val (pe_callB call_isi (by rfl) T.m_isinstance (by decide +kernel) (pa_cons (pv 1) (pa_cons (pe_bltn (v := .ty "list") (by rfl) T.m_list (by decide +kernel) rfl) pa_nil)))) (pw_and1 (pt_not (pt_val (pe_callB call_isi (by rfl) T.m_isinstance (by decide +kernel) (pa_cons (pv 0) (pa_cons (pe_bltn (v := .ty "list") (by rfl) T.m_list (by decide +kernel) rfl) pa_nil)))))))) (pss_one (ps_ret pe_bl)) pss_nil)
 (pss_cons (ps_if (PW.pt (pw_and (pt_val (pe_callB call_isi (by rfl) T.m_isinstance (by decide +kernel) (pa_cons (pv 1) (pa_cons (pe_bltn (v := .ty "tuple") (by rfl) T.m_tuple (by decide +kernel) rfl) pa_nil)))) (pw_and1 (pt_not (pt_val (pe_callB call_isi (by rfl) T.m_isinstance (by decide +kernel) (pa_cons (pv 0) (pa_cons (pe_bltn (v := .ty "tuple") (by rfl) T.m_tuple (by decide +kernel) rfl) pa_nil)))))))) (pss_one (ps_ret pe_bl)) pss_nil)
 (pss_cons (ps_if (pt_cmpR op_ne (pe_callB call_len_seq (by rfl) T.m_len (by decide +kernel) (pa_cons (pv 0) pa_nil)) (pe_callB call_len_seq (by rfl) T.m_len (by decide +kernel) (pa_cons (pv 1) pa_nil)) (nomark _)) (pss_one (ps_ret pe_bl)) pss_nil)
 (pss_cons (ps_for PassesOwn.never rfl (pi_range1 (by rfl) T.m_range (pa_cons (pe_callB call_len_seq (by rfl) T.m_len (by decide +kernel) (pa_cons (pv 1) pa_nil)) pa_nil)) (pg_name (i := 2) sc_alike.nd rfl (.inl rfl)) (pss_one (ps_if (pt_not (pt_val (pe_call G_alike (hr.mono (by decide)) (by rfl) T.g_alike T.F_alike.kp T.b_alike .nil pass0 (pa_cons (pe_ix ix_list (pv 0) (pv 2) (fun _ _ => rfl)) (pa_cons (pe_ix ix_list (pv 1) (pv 2) (fun _ _ => rfl)) pa_nil))))) (pss_one (ps_ret pe_bl)) pss_nil)))
 (pss_one (ps_ret pe_bl)))))))))), ?_⟩
    refine Z.w_start (σ' := [some (.int i), some (.int i), none]) rfl ?_
    walk_at "w"
    rw [decide_eq_true rfl]
    exact hq
theorem use_alike0 {i : Int} {H : Hp} {Q : VK} {E : XK} (q : Q (.bl true) H) : spAlike0 [.int i, .int i] H Q E := ⟨i, rfl, q⟩
end
end L
local macro_rules | `(tactic| walk_at "w1") => `(tactic| first
  | with_reducible refine L.use_alike0 ?_
  | fail "w1")
namespace L
open PySem PySem.Spec PyProof.Rows L2 Z M
section
variable {P : Program} {w : World} {K : PySem.W.Frag} {mg : Str → Option Value} {base : Heap}
/-- two results of lists with the same members -/
def spAlikeR : Sp := fun vs H Q _ => ∃ (ls ms : List Int) (v u : V), vs = [v, u] ∧ Res ls v H ∧ Res ms u H ∧ (∀ x, x ∈ ls ↔ x ∈ ms) ∧ ms.length ≤ 1000 ∧ Q (.bl true) H
theorem res_alike {ls ms : List Int} {v u : V} {H : Hp} (h1 : Res ls v H) (h2 : Res ms u H) (h : ∀ x, x ∈ ls ↔ x ∈ ms) (hl : ms.length ≤ 1000) :
    (v = .non ∧ u = .non) ∨ ∃ (a b : Addr) (ys : List Int), v = .ref a ∧ u = .ref b ∧ H a = some (.tup (ys.map V.int)) ∧ H b = some (.tup (ys.map V.int)) ∧ ys.length ≤ 1000 := by
  have hc : Clash ls ↔ Clash ms := ⟨fun ⟨x, a, b⟩ => ⟨x, (h _).mp a, (h _).mp b⟩, fun ⟨x, a, b⟩ => ⟨x, (h _).mpr a, (h _).mpr b⟩⟩
  rcases h1 with ⟨c1, e1⟩ | ⟨c1, a, ys, e1, p1, l1, a1⟩
  · rcases h2 with ⟨c2, e2⟩ | ⟨c2, _⟩
    · exact .inl ⟨e1, e2⟩
    · exact absurd (hc.mp c1) c2
  · rcases h2 with ⟨c2, e2⟩ | ⟨c2, b, zs, e2, p2, l2, a2⟩
    · exact absurd (hc.mpr c2) c1
    · have e : ys = zs := asc_uniq ys zs p1.1 p2.1 fun x => by rw [p1.2, p2.2, h]
      subst e
      exact .inr ⟨a, b, ys, e1, e2, a1, a2, by omega⟩
theorem ok_alikeR (T : Txt K mg) : FnOk P w K mg base CX0 2 T.f_alike T.fd_alike ["_law_told", "_law_due_here"] spAlikeR := by
  have G_alike := ok_alike0 (P := P) (w := w) (base := base) T
  refine T.F_alike.ok sc_alike (fun vs H Q E h => ?_) (fun cdv A outer s H vs Q E hr h => ?_)
  · obtain ⟨ls, ms, v, u, rfl, _⟩ := h
    rfl
  · obtain ⟨ls, ms, v, u, rfl, h1, h2, h3, h4, hq⟩ := h
    refine ⟨_, (pss_cons (ps_if (pt_cmpR op_isN (pv 1) pe_non (nomark _)) (pss_one (ps_ret (pe_cmpR op_isN (pv 0) pe_non (nomark _)))) pss_nil)
 (pss_cons (ps_if (pt_val (pe_callB call_isi (by rfl) T.m_isinstance (by decide +kernel) (pa_cons (pv 1) (pa_cons (pe_bltn (v := .ty "bool") (by rfl) T.m_bool (by decide +kernel) rfl) pa_nil)))) (pss_one (ps_ret (pe_and (pe_callB call_isi (by rfl) T.m_isinstance (by decide +kernel) (pa_cons (pv 0) (pa_cons (pe_bltn (v := .ty "bool") (by rfl) T.m_bool (by decide +kernel) rfl) pa_nil))) (pe_one (pe_cmpR (op_eqD hr.units) (pv 0) (pv 1) (nomark _)))))) pss_nil)
 (pss_cons (ps_if (pt_val (pe_callB call_isi (by rfl) T.m_isinstance (by decide +kernel) (pa_cons (pv 1) (pa_cons (pe_bltn (v := .ty "int") (by rfl) T.m_int (by decide +kernel) rfl) pa_nil)))) (pss_one (ps_ret (pe_and (pe_callB call_isi (by rfl) T.m_isinstance (by decide +kernel) (pa_cons (pv 0) (pa_cons (pe_bltn (v := .ty "int") (by rfl) T.m_int (by decide +kernel) rfl) pa_nil))) (pe_and (pe_not (pe_callB call_isi (by rfl) T.m_isinstance (by decide +kernel) (pa_cons (pv 0) (pa_cons (pe_bltn (v := .ty "bool") (by rfl) T.m_bool (by decide +kernel) rfl) pa_nil)))) (pe_one (pe_cmpR (op_eqD hr.units) (pv 0) (pv 1) (nomark _))))))) pss_nil)
 (pss_cons (ps_if (pt_val (pe_callB call_isi (by rfl) T.m_isinstance (by decide +kernel) (pa_cons (pv 1) (pa_cons (pe_bltn (v := .ty "str") (by rfl) T.m_str (by decide +kernel) rfl) pa_nil)))) (pss_one (ps_ret (pe_and (pe_callB call_isi (by rfl) T.m_isinstance (by decide +kernel) (pa_cons (pv 0) (pa_cons (pe_bltn (v := .ty "str") (by rfl) T.m_str (by decide +kernel) rfl) pa_nil))) (pe_one (pe_cmpR (op_eqD hr.units) (pv 0) (pv 1) (nomark _)))))) pss_nil)
 (pss_cons (ps_if (PW.pt (pw_and (pt_val (pe_callB call_isi (by rfl) T.m_isinstance (by decide +kernel) (pa_cons (pv 1) (pa_cons (pe_bltn (v := .ty "list") (by rfl) T.m_list (by decide +kernel) rfl) pa_nil)))) (pw_and1 (pt_not (pt_val (pe_callB call_isi (by rfl) T.m_isinstance (by decide +kernel) (pa_cons (pv 0) (pa_cons (pe_bltn (v := .ty "list") (by rfl) T.m_list (by decide +kernel) rfl) pa_nil)))))))) (pss_one (ps_ret pe_bl)) pss_nil)
 (pss_cons (ps_if (PW.pt (pw_and (pt_val (pe_callB call_isi (by rfl) T.m_isinstance (by decide +kernel) (pa_cons (pv 1) (pa_cons (pe_bltn (v := .ty "tuple") (by rfl) T.m_tuple (by decide +kernel) rfl) pa_nil)))) (pw_and1 (pt_not (pt_val (pe_callB call_isi (by rfl) T.m_isinstance (by decide +kernel) (pa_cons (pv 0) (pa_cons (pe_bltn (v := .ty "tuple") (by rfl) T.m_tuple (by decide +kernel) rfl) pa_nil)))))))) (pss_one (ps_ret pe_bl)) pss_nil)
 (pss_cons (ps_if (pt_cmpR op_ne (pe_callB call_len_seq (by rfl) T.m_len (by decide +kernel) (pa_cons (pv 0) pa_nil)) (pe_callB call_len_seq (by rfl) T.m_len (by decide +kernel) (pa_cons (pv 1) pa_nil)) (nomark _)) (pss_one (ps_ret pe_bl)) pss_nil)
 (pss_cons (ps_for PassesOwn.never rfl (pi_range1 (by rfl) T.m_range (pa_cons (pe_callB call_len_seq (by rfl) T.m_len (by decide +kernel) (pa_cons (pv 1) pa_nil)) pa_nil)) (pg_name (i := 2) sc_alike.nd rfl (.inl rfl)) (pss_one (ps_if (pt_not (pt_val (pe_call G_alike (hr.mono (by decide)) (by rfl) T.g_alike T.F_alike.kp T.b_alike .nil pass0 (pa_cons (pe_ix ix_tup (pv 0) (pv 2) (fun _ _ => rfl)) (pa_cons (pe_ix ix_tup (pv 1) (pv 2) (fun _ _ => rfl)) pa_nil))))) (pss_one (ps_ret pe_bl)) pss_nil)))
 (pss_one (ps_ret pe_bl)))))))))), ?_⟩
    rcases res_alike h1 h2 h3 h4 with ⟨rfl, rfl⟩ | ⟨a, b, ys, rfl, rfl, ha, hb, hl⟩
    · refine Z.w_start (σ' := [some (.non), some (.non), none]) rfl ?_
      walk_at "w"
      exact hq
    · refine Z.w_start (σ' := [some (.ref a), some (.ref b), none]) rfl ?_
      walk_at "w"
      rw [List.length_map]
      refine ⟨by omega, by omega, ?_⟩
      refine for_range (lo := 0) (n := ys.length) (fun i σ H' => ∃ (x2 : Option V), σ = [some (.ref a), some (.ref b), x2] ∧ H' = H) ?_ ?_ ?_
      · exact ⟨_, rfl, rfl⟩
      · rintro i σ H' hi ⟨x2, rfl, rfl⟩
        obtain ⟨z, az, _⟩ := pick (ns := ys) (k := 0 + (i : Int)) (by omega) (by omega)
        walk_at "w"
        first | exact ⟨_, rfl, rfl⟩ | rfl
      · rintro σ H' ⟨x2, rfl, rfl⟩
        walk_at "w"
        exact hq
theorem use_alikeR {ls ms : List Int} {v u : V} {H : Hp} {Q : VK} {E : XK} (h1 : Res ls v H) (h2 : Res ms u H) (h3 : ∀ x, x ∈ ls ↔ x ∈ ms) (h4 : ms.length ≤ 1000) (q : Q (.bl true) H) : spAlikeR [v, u] H Q E := ⟨ls, ms, v, u, rfl, h1, h2, h3, h4, q⟩
def spAlikeL : Sp := fun vs H Q _ => ∃ (a b : Addr) (ys : List Int), vs = [.ref a, .ref b] ∧ H a = some (.lst (ys.map V.int)) ∧ H b = some (.lst (ys.map V.int)) ∧ ys.length ≤ 1000 ∧ Q (.bl true) H
theorem ok_alikeL (T : Txt K mg) : FnOk P w K mg base CX0 2 T.f_alike T.fd_alike ["_law_told", "_law_due_here"] spAlikeL := by
  have G_alike := ok_alike0 (P := P) (w := w) (base := base) T
  refine T.F_alike.ok sc_alike (fun vs H Q E h => ?_) (fun cdv A outer s H vs Q E hr h => ?_)
  · obtain ⟨a, b, ys, rfl, _⟩ := h
    rfl
  · obtain ⟨a, b, ys, rfl, ha, hb, hl, hq⟩ := h
    refine ⟨_, (pss_cons (ps_if (pt_cmpR op_isN (pv 1) pe_non (nomark _)) (pss_one (ps_ret (pe_cmpR op_isN (pv 0) pe_non (nomark _)))) pss_nil)
 (pss_cons (ps_if (pt_val (pe_callB call_isi (by rfl) T.m_isinstance (by decide +kernel) (pa_cons (pv 1) (pa_cons (pe_bltn (v := .ty "bool") (by rfl) T.m_bool (by decide +kernel) rfl) pa_nil)))) (pss_one (ps_ret (pe_and (pe_callB call_isi (by rfl) T.m_isinstance (by decide +kernel) (pa_cons (pv 0) (pa_cons (pe_bltn (v := .ty "bool") (by rfl) T.m_bool (by decide +kernel) rfl) pa_nil))) (pe_one (pe_cmpR (op_eqD hr.units) (pv 0) (pv 1) (nomark _)))))) pss_nil)
 (pss_cons (ps_if (pt_val (pe_callB call_isi (by rfl) T.m_isinstance (by decide +kernel) (pa_cons (pv 1) (pa_cons (pe_bltn (v := .ty "int") (by rfl) T.m_int (by decide +kernel) rfl) pa_nil)))) (pss_one (ps_ret (pe_and (pe_callB call_isi (by rfl) T.m_isinstance (by decide +kernel) (pa_cons (pv 0) (pa_cons (pe_bltn (v := .ty "int") (by rfl) T.m_int (by decide +kernel) rfl) pa_nil))) (pe_and (pe_not (pe_callB call_isi (by rfl) T.m_isinstance (by decide +kernel) (pa_cons (pv 0) (pa_cons (pe_bltn (v := .ty "bool") (by rfl) T.m_bool (by decide +kernel) rfl) pa_nil)))) (pe_one (pe_cmpR (op_eqD hr.units) (pv 0) (pv 1) (nomark _))))))) pss_nil)
 (pss_cons (ps_if (pt_val (pe_callB call_isi (by rfl) T.m_isinstance (by decide +kernel) (pa_cons (pv 1) (pa_cons (pe_bltn (v := .ty "str") (by rfl) T.m_str (by decide +kernel) rfl) pa_nil)))) (pss_one (ps_ret (pe_and (pe_callB call_isi (by rfl) T.m_isinstance (by decide +kernel) (pa_cons (pv 0) (pa_cons (pe_bltn (v := .ty "str") (by rfl) T.m_str (by decide +kernel) rfl) pa_nil))) (pe_one (pe_cmpR (op_eqD hr.units) (pv 0) (pv 1) (nomark _)))))) pss_nil)
 (pss_cons (ps_if (PW.pt (pw_and (pt_val (pe_callB call_isi (by rfl) T.m_isinstance (by decide +kernel) (pa_cons (pv 1) (pa_cons (pe_bltn (v := .ty "list") (by rfl) T.m_list (by decide +kernel) rfl) pa_nil)))) (pw_and1 (pt_not (pt_val (pe_callB call_isi (by rfl) T.m_isinstance (by decide +kernel) (pa_cons (pv 0) (pa_cons (pe_bltn (v := .ty "list") (by rfl) T.m_list (by decide +kernel) rfl) pa_nil)))))))) (pss_one (ps_ret pe_bl)) pss_nil)
 (pss_cons (ps_if (PW.pt (pw_and (pt_val (pe_callB call_isi (by rfl) T.m_isinstance (by decide +kernel) (pa_cons (pv 1) (pa_cons (pe_bltn (v := .ty "tuple") (by rfl) T.m_tuple (by decide +kernel) rfl) pa_nil)))) (pw_and1 (pt_not (pt_val (pe_callB call_isi (by rfl) T.m_isinstance (by decide +kernel) (pa_cons (pv 0) (pa_cons (pe_bltn (v := .ty "tuple") (by rfl) T.m_tuple (by decide +kernel) rfl) pa_nil)))))))) (pss_one (ps_ret pe_bl)) pss_nil)
 (pss_cons (ps_if (pt_cmpR op_ne (pe_callB call_len_seq (by rfl) T.m_len (by decide +kernel) (pa_cons (pv 0) pa_nil)) (pe_callB call_len_seq (by rfl) T.m_len (by decide +kernel) (pa_cons (pv 1) pa_nil)) (nomark _)) (pss_one (ps_ret pe_bl)) pss_nil)
 (pss_cons (ps_for PassesOwn.never rfl (pi_range1 (by rfl) T.m_range (pa_cons (pe_callB call_len_seq (by rfl) T.m_len (by decide +kernel) (pa_cons (pv 1) pa_nil)) pa_nil)) (pg_name (i := 2) sc_alike.nd rfl (.inl rfl)) (pss_one (ps_if (pt_not (pt_val (pe_call G_alike (hr.mono (by decide)) (by rfl) T.g_alike T.F_alike.kp T.b_alike .nil pass0 (pa_cons (pe_ix ix_list (pv 0) (pv 2) (fun _ _ => rfl)) (pa_cons (pe_ix ix_list (pv 1) (pv 2) (fun _ _ => rfl)) pa_nil))))) (pss_one (ps_ret pe_bl)) pss_nil)))
 (pss_one (ps_ret pe_bl)))))))))), ?_⟩
    · refine Z.w_start (σ' := [some (.ref a), some (.ref b), none]) rfl ?_
      walk_at "w"
      rw [List.length_map]
      refine ⟨by omega, by omega, ?_⟩
      refine for_range (lo := 0) (n := ys.length) (fun i σ H' => ∃ (x2 : Option V), σ = [some (.ref a), some (.ref b), x2] ∧ H' = H) ?_ ?_ ?_
      · exact ⟨_, rfl, rfl⟩
      · rintro i σ H' hi ⟨x2, rfl, rfl⟩
        obtain ⟨z, az, _⟩ := pick (ns := ys) (k := 0 + (i : Int)) (by omega) (by omega)
        walk_at "w"
        first | exact ⟨_, rfl, rfl⟩ | rfl
      · rintro σ H' ⟨x2, rfl, rfl⟩
        walk_at "w"
        exact hq
end
end L

namespace L
open PySem PySem.Spec PyProof.Rows L2 Z M
section
variable {P : Program} {w : World} {K : PySem.W.Frag} {mg : Str → Option Value} {base : Heap}
theorem lc_absI {a D : Addr} {c : List Int} {g : TG} {tt : TT} {te : TE} {ivs : List Nat} {σ : L2.St} {H : Hp} {Qd : Hp → Prop} (hS : SqL K H a (c.map V.int)) (hD : H D = none) (hc : c.length ≤ 60)
    (hd : ∀ H', Same H H' → H' D = some (.lst ((c.map fun l : Int => (l.natAbs : Int)).map V.int)) → Qd H')
    (hs : ∀ (x : Int) (H' : Hp) (R : L2.St → Hp → Prop), (∀ σ2, wipe σ2 ivs = wipe σ ivs → (∀ (Q : VK), Q (.int (if x < 0 then -x else x)) H' → te σ2 H' Q) → (∀ (R : Bool → Hp → Prop), R true H' → tt σ2 H' R) → R σ2 H') → g (.int x) (wipe σ ivs) H' R) :
    ∃ W : Nat → Nat → Hp → Prop, (∃ m, W 0 m (upd H D (.lst []))) ∧ ∀ i m H, W i m H →
      ((Itl K a).stop i H ∧ Qd H) ∨ ((Itl K a).go i H ∧ ∃ Nx : Hp → Prop, (∀ H', Nx H' → ∃ m', m' < m ∧ W (i + 1) m' H') ∧ ∀ x H', (Itl K a).yld i H x H' → g x (wipe σ ivs) H' fun σ2 H2 => wipe σ2 ivs = wipe σ ivs ∧ tt σ2 H2 fun b H3 =>
        if b = true then te σ2 H3 fun y H4 => ∃ acc, H4 D = some (.lst acc) ∧ acc.length < sizeLine ∧ Nx (upd H4 D (.lst (acc ++ [y]))) else Nx H3) := by
  refine lc_list (xs := c.map V.int) (fun i H' => Same H H' ∧ H' D = some (.lst (((c.take i).map fun l : Int => (l.natAbs : Int)).map V.int)) ∧ i ≤ c.length) ?_ ?_ ?_ ?_
  · exact ⟨same_of (Same.refl _) hD, upd_same, Nat.zero_le _⟩
  · intro i H' _ h
    exact h.1.seq hS
  · intro i x H' hx ⟨sm, he, hi⟩
    rw [List.getElem?_map] at hx
    cases hxi : c[i]? with
    | none => rw [hxi] at hx; cases hx
    | some z =>
      rw [hxi] at hx
      obtain rfl : V.int z = x := Option.some.inj hx
      have hil : i < c.length := (List.getElem?_eq_some_iff.mp hxi).1
      have ht : c.take (i + 1) = c.take i ++ [z] := by rw [List.take_add_one, hxi]; rfl
      refine hs z H' _ fun σ2 e1 e3 e4 => ⟨e1, e4 _ ?_⟩
      rw [if_pos rfl]
      refine e3 _ ⟨_, he, ?_, same_mut sm hD, ?_, hil⟩
      · rw [List.length_map, List.length_map]
        refine Nat.lt_of_le_of_lt ?_ (show 1000 < sizeLine by decide)
        rw [List.length_take]
        omega
      · have ez : (if z < 0 then -z else z) = (z.natAbs : Int) := by split <;> omega
        rw [upd_same, ht, List.map_append, List.map_append, ez]
        rfl
  · intro H' ⟨sm, he, _⟩
    rw [List.length_map, List.take_length] at he
    exact hd H' sm he
def spDue (K : PySem.W.Frag) : Sp := fun vs H Q _ => ∃ (a : Addr) (ls : List Int), vs = [.ref a] ∧ SqL K H a (ls.map V.int) ∧ ls.length ≤ 60 ∧ (∀ l ∈ ls, l ≠ 0) ∧ ClEnd ls H Q
theorem ok_due (T : Txt K mg) : FnOk P w K mg base CX0 1 T.f_due T.fd_due ["_law_literals_here"] (spDue K) := by
  refine T.F_due.ok sc_due (fun vs H Q E h => ?_) (fun cdv A outer s H vs Q E hr h => ?_)
  · obtain ⟨a, ls, rfl, _⟩ := h
    rfl
  · obtain ⟨a, ls, rfl, hS, hl, h0, he⟩ := h
    refine ⟨_, (pss_cons (ps_for PassesOwn.never rfl (pi_list (pv 0)) (pg_name (i := 1) sc_due.nd rfl (.inl rfl)) (pss_one (ps_if (pt_cmpR op_in_seq (pe_op op_sub pe_int (pv 1)) (pv 0) rfl) (pss_one (ps_ret pe_non)) pss_nil)))
 (pss_cons (ps_set (i := 2) sc_due.nd rfl (.inl rfl) (pe_lst pa_nil))
 (pss_cons (ps_for PassesOwn.never rfl (pi_list (pe_callB cr_sorted (by rfl) T.m_sorted (by decide +kernel) (pa_cons (pe_lc (own := [("_law_literal", 1)]) (g := gName 1) (tt := tYes) (by rfl) sc_due.nd (pi_list (pv 0)) (blkOk_by (own := [("_law_literal", 1)]) (N := N_due) (sc := defScope s_due) (by decide +kernel)) (fun _ _ _ _ _ => pg_name (i := 1) sc_due.nd rfl (Or.inl rfl)) (fun _ _ _ _ _ => pts_nil) (fun _ _ _ _ _ => (pe_callB call_abs (by rfl) T.m_abs (by decide +kernel) (pa_cons (pv 1) pa_nil)))) pa_nil))) (pg_name (i := 3) sc_due.nd rfl (.inl rfl)) (pss_cons (ps_set (i := 1) sc_due.nd rfl (.inl rfl) (pv 3))
 (pss_cons (ps_if (pt_cmpR op_notIn_seq (pv 3) (pv 0) rfl) (pss_one (ps_set (i := 1) sc_due.nd rfl (.inl rfl) (pe_op op_sub pe_int (pv 3)))) pss_nil)
 (pss_one (ps_if (pt_cmpR op_notIn_seq (pv 1) (pv 2) rfl) (pss_one (ps_expr (pe_bm PySem.F.plainAttrs_list PySem.F.slot_list_append PySem.F.type_list_append mt_append (pv 2) (pa_cons (pv 1) pa_nil)))) pss_nil)))))
 (pss_one (ps_ret (pe_callTy call_tuple_of (by rfl) T.m_tuple (by decide +kernel) (pa_cons (pv 2) pa_nil))))))), ?_⟩
    refine Z.w_start (σ' := [some (.ref a), none, none, none]) rfl ?_
    walk_at "w"
    refine for_list (xs := ls.map V.int) (fun i σ H' => ∃ (x1 : Option V), σ = [some (.ref a), x1, none, none] ∧ H' = H ∧ i ≤ ls.length ∧ (∀ x ∈ ls.take i, -x ∉ ls)) ?_ ?_ ?_ ?_
    · exact ⟨_, rfl, rfl, Nat.zero_le _, by simp⟩
    · rintro i σ H' _ ⟨x1, rfl, rfl, hi, hn⟩
      exact hS
    · rintro i x σ H' hx ⟨x1, rfl, rfl, hi, hn⟩
      rw [List.getElem?_map] at hx
      cases hxi : ls[i]? with
      | none => rw [hxi] at hx; cases hx
      | some l =>
        rw [hxi] at hx
        obtain rfl : V.int l = x := Option.some.inj hx
        have hlm : l ∈ ls := List.mem_of_getElem? hxi
        have hil : i < ls.length := (List.getElem?_eq_some_iff.mp hxi).1
        have ht : ls.take (i + 1) = ls.take i ++ [l] := by rw [List.take_add_one, hxi]; rfl
        walk_at "w"
        walk_at "wi"
        · rename_i hc
          walk_at "w"
          exact he _ _ (Same.refl _) (.inl ⟨⟨l, hlm, by rw [Int.zero_sub] at hc; exact hc⟩, rfl⟩)
        · rename_i hc
          walk_at "w"
          refine ⟨hil, ?_⟩
          intro x hx
          rw [ht] at hx
          rcases List.mem_append.mp hx with h | h
          · exact hn x h
          · rw [List.mem_singleton.mp h]
            rw [Int.zero_sub] at hc
            exact hc
    · rintro σ H0 ⟨x1, rfl, rfl, hi, hn⟩
      rw [List.length_map, List.take_length] at hn
      walk_at "w"
      rename_i d hd0
      refine fun D1 hD1 => lc_absI ((same_of (Same.refl _) hd0).seq hS) hD1 hl (fun H1 s1 e1 => ?_) fun x H' R k => ?_
      case refine_2 =>
        refine Z.w_gname (σ' := [some (.ref a), some (.int x), some (.ref d), none]) rfl ?_
        refine k _ rfl (fun Q q => ?_) fun R q => ?_
        · walk_at "w"
          exact q
        · exact q
      refine ⟨D1, _, rfl, .inl (.inl e1), ?_, fun ns q hp hs hq => ?_⟩
      · rw [List.length_map]
        omega
      have hl2 : ns.length = ls.length := by rw [hp.length_eq, List.length_map]
      have sm1 : Same (upd H0 d (.lst [])) (upd H1 q (.lst (ns.map V.int))) := same_of s1 hq
      walk_at "w"
      refine for_list (xs := ns.map V.int) (fun i σ H' => ∃ (x1 x3 : Option V) (D : List Int), σ = [some (.ref a), x1, some (.ref d), x3] ∧ Same H0 H' ∧ H' q = some (.lst (ns.map V.int)) ∧ H' d = some (.lst (D.map V.int)) ∧ DueI ls ns i D ∧ i ≤ ns.length) ?_ ?_ ?_ ?_
      · exact ⟨_, _, [], rfl, (same_of (Same.refl _) hd0).trans sm1, upd_same, sm1 _ _ upd_same, due_zero _ _, Nat.zero_le _⟩
      · rintro i σ H' _ ⟨x1, x3, D, rfl, sm, hq2, hd2, hD, hi⟩
        exact .inl (.inl hq2)
      · rintro i x σ H' hx ⟨x1, x3, D, rfl, sm, hq2, hd2, hD, hi⟩
        rw [List.getElem?_map] at hx
        cases hxi : ns[i]? with
        | none => rw [hxi] at hx; cases hx
        | some z =>
          rw [hxi] at hx
          obtain rfl : V.int z = x := Option.some.inj hx
          have hS' : SqL K H' a (ls.map V.int) := sm.seq hS
          have hil : i < ns.length := (List.getElem?_eq_some_iff.mp hxi).1
          have hDl : D.length ≤ i := hD.2.2
          have hz : ∃ l ∈ ls, (l.natAbs : Int) = z := by
            have := hp.mem_iff.mp (List.mem_of_getElem? hxi)
            obtain ⟨l, a, b⟩ := List.mem_map.mp this
            exact ⟨l, a, b⟩
          have hd2n : H0 d = none := hd0
          have hqd : d ≠ q := ne_of_none (s1 _ _ upd_same) hq
          obtain ⟨l, hlm, hlz⟩ := hz
          walk_at "w"
          walk_at "wi"
          · rename_i hc
            have hm : -z ∈ ls := by
              have : l = z ∨ l = -z := by omega
              rcases this with e | e
              · rw [e] at hlm
                exact absurd hlm hc
              · rw [← e]
                exact hlm
            have nx := due_next hD hs hxi hn hm (by omega)
            walk_at "w"
            walk_at "wi"
            · rename_i hc2
              rw [Int.zero_sub] at hc2
              rw [if_neg hc2] at nx
              walk_at "w"
              refine ⟨_, _, _, rfl, same_mut sm hd2n, by rw [upd_ne (Ne.symm hqd)]; exact hq2, ?_, nx, hil⟩
              rw [upd_same, List.map_append, Int.zero_sub]
              rfl
            · rename_i hc2
              rw [Int.zero_sub] at hc2
              rw [if_pos hc2] at nx
              walk_at "w"
              exact ⟨_, _, _, rfl, sm, hq2, hd2, nx, hil⟩
          · rename_i hc
            have nx := due_next hD hs hxi hn hc (by omega)
            walk_at "w"
            walk_at "wi"
            · rename_i hc2
              rw [if_neg hc2] at nx
              walk_at "w"
              refine ⟨_, _, _, rfl, same_mut sm hd2n, by rw [upd_ne (Ne.symm hqd)]; exact hq2, ?_, nx, hil⟩
              rw [upd_same, List.map_append]
              rfl
            · rename_i hc2
              rw [if_pos hc2] at nx
              walk_at "w"
              exact ⟨_, _, _, rfl, sm, hq2, hd2, nx, hil⟩
      · rintro σ H' ⟨x1, x3, D, rfl, sm, hq2, hd2, hD, hi⟩
        rw [List.length_map] at hD
        have hDl : D.length ≤ ns.length := hD.2.2
        walk_at "w"
        exact ⟨d, _, rfl, .inl ⟨.inl (.inl hd2), fun t ht => he (.ref t) _ (same_of sm ht) (.inr ⟨fun ⟨x, h1, h2⟩ => hn x h1 h2, t, D, rfl, due_end hD hp, by omega, upd_same⟩)⟩⟩
theorem use_due {a : Addr} {ls : List Int} {H : Hp} {Q : VK} {E : XK} (h : SqL K H a (ls.map V.int)) (h1 : ls.length ≤ 60) (h2 : ∀ l ∈ ls, l ≠ 0) (he : ClEnd ls H Q) : spDue K [.ref a] H Q E := ⟨a, ls, rfl, h, h1, h2, he⟩
end
end L

namespace L
open PySem PySem.Spec PyProof.Rows L2 Z M
section
variable {P : Program} {w : World} {K : PySem.W.Frag} {mg : Str → Option Value} {base : Heap}
theorem use_pool {a : Addr} {ns : List Int} {k : Int} {H : Hp} {Q : VK} {E : XK} (hS : SqL K H a (ns.map V.int)) (hl : ns.length ≤ 1000) (h0 : 0 ≤ k) (h1 : k < 2 ^ 62) (h : ∀ q o, H q = none → IsPool o → Q (.ref q) (upd H q o)) : spPool K [.ref a, .int k] H Q E := ⟨a, ns, k, rfl, hS, hl, h0, h1, h⟩
theorem use_take {q : Addr} {o : HO} {n : Int} {H : Hp} {Q : VK} {E : XK} (h : H q = some o) (hp : IsPool o) (h1 : 0 < n) (h2 : n < 1073741824) (hq : ∀ r o', 0 ≤ r → r < n → IsPool o' → Q (.int r) (upd H q o')) : spTake [.ref q, .int n] H Q E := ⟨q, o, n, rfl, h, hp, h1, h2, hq⟩
theorem use_takeU {q : Addr} {o : HO} {n : Int} {H : Hp} {Q : VK} {E : XK} (hp : IsPool o) (h1 : 0 < n) (h2 : n < 1073741824) (hq : ∀ r o', 0 ≤ r → r < n → IsPool o' → Q (.int r) (upd H q o')) : spTake [.ref q, .int n] (upd H q o) Q E := ⟨q, o, n, rfl, upd_same, hp, h1, h2, fun r o' a b c => by rw [upd_upd]; exact hq r o' a b c⟩
/-- all but one object kept -/
def SX (q : Addr) (H H' : Hp) : Prop := ∀ b x, b ≠ q → H b = some x → H' b = some x
theorem SX.refl {q : Addr} (H : Hp) : SX q H H := fun _ _ _ e => e
theorem SX.trans {q : Addr} {H H1 H2 : Hp} (a : SX q H H1) (b : SX q H1 H2) : SX q H H2 := fun c x n e => b c x n (a c x n e)
theorem SX.at {q : Addr} {H H' : Hp} {o : HO} (s : SX q H H') : SX q H (upd H' q o) := fun b x n e => by rw [upd_ne n]; exact s b x n e
theorem SX.fresh {q p : Addr} {H H' : Hp} {o : HO} (s : SX q H H') (h : H' p = none) : SX q H (upd H' p o) := fun b x n e => by
  rw [upd_ne (ne_of_none (s b x n e) h)]
  exact s b x n e
theorem SX.own {q p : Addr} {H H' : Hp} {o : HO} (s : SX q H H') (h : H p = none) : SX q H (upd H' p o) := fun b x n e => by
  rw [upd_ne (ne_of_none e h)]
  exact s b x n e
theorem SX.same {q : Addr} {H H' : Hp} {o : HO} (h : H q = none) (s : SX q (upd H q o) H') : Same H H' := fun b x e => by
  have n : b ≠ q := ne_of_none e h
  exact s b x n (by rw [upd_ne n]; exact e)
theorem SX.free {q p : Addr} {H H' : Hp} {o : HO} (s : SX q H H') (hq : H' q = some o) (h : H' p = none) : H p = none := by
  cases e : H p with
  | none => rfl
  | some x => rw [s p x (Ne.symm (ne_of_none hq h)) e] at h; cases h
theorem SX.of {q : Addr} {H H1 H' : Hp} (s : SX q H H1) (t : Same H1 H') : SX q H H' := fun b x n e => t b x (s b x n e)
/-- six nodes, ascending -/
def NodesOk (ns : List Int) : Prop := ns.length = 6 ∧ ns.Pairwise (· < ·) ∧ ∀ n ∈ ns, 0 < n
def spChosen : Sp := fun vs H Q _ => ∃ (q : Addr) (o : HO), vs = [.ref q] ∧ H q = some o ∧ IsPool o ∧ ∀ (a : Addr) (ns : List Int) H', SX q H H' → H' a = some (.lst (ns.map V.int)) → NodesOk ns → Q (.ref a) H'
def UpI (i : Nat) (l : Int) (ns : List Int) : Prop := ns.length = i ∧ ns.Pairwise (· < ·) ∧ 0 ≤ l ∧ ∀ n ∈ ns, 0 < n ∧ n ≤ l
theorem up_next {i : Nat} {l r : Int} {ns : List Int} (h : UpI i l ns) (hr : 0 ≤ r) : UpI (i + 1) (l + 1 + r) (ns ++ [l + 1 + r]) := by
  obtain ⟨h1, h2, h3, h4⟩ := h
  refine ⟨by rw [List.length_append, h1]; rfl, ?_, by omega, fun n hn => ?_⟩
  · rw [List.pairwise_append]
    refine ⟨h2, List.pairwise_singleton _ _, fun x hx y hy => ?_⟩
    rw [List.mem_singleton.mp hy]
    have := (h4 x hx).2
    omega
  · rcases List.mem_append.mp hn with h | h
    · have := h4 n h
      omega
    · rw [List.mem_singleton.mp h]
      omega
variable {σ : L2.St} {H : Hp} {Q : VK}
theorem w_slice {r : V → Option Int → Option Int → Hp → VK → Prop} {te : TE} {tl th : TO} (h : te σ H fun x H1 => tl σ H1 fun l H2 => th σ H2 fun u H3 => r x l u H3 Q) : L2.tSl r te tl th σ H Q := h
theorem w_nopart {R : Option Int → Hp → Prop} (h : R none H) : tNoPart σ H R := h
theorem w_part {t : TE} {R : Option Int → Hp → Prop} (h : t σ H fun x H1 => ∃ i, x = .int i ∧ R (some i) H1) : tPart t σ H R := h
theorem cutV_ints (ls : List Int) (lo hi : Option Int) : ∃ ms : List Int, cutV (ls.map V.int) lo hi = ms.map V.int ∧ ms.length ≤ ls.length ∧ ∀ x ∈ ms, x ∈ ls := by
  unfold cutV
  refine ⟨(ls.drop (HT.sIx (ls.map V.int).length 0 lo)).take (HT.sIx (ls.map V.int).length (ls.map V.int).length hi - HT.sIx (ls.map V.int).length 0 lo), ?_, ?_, ?_⟩
  · rw [List.map_take, List.map_drop]
  · rw [List.length_take, List.length_drop]
    omega
  · exact fun x hx => List.mem_of_mem_drop (List.mem_of_mem_take hx)
theorem w_slL {a : Addr} {ls : List Int} {lo hi : Option Int} (h : SqL K H a (ls.map V.int)) (q : ∀ p (ms : List Int), H p = none → ms.length ≤ ls.length → (∀ x ∈ ms, x ∈ ls) → Q (.ref p) (upd H p (.lst (ms.map V.int)))) : rSlL K (.ref a) lo hi H Q := by
  obtain ⟨ms, e, h1, h2⟩ := cutV_ints ls lo hi
  refine ⟨a, _, rfl, h, fun p hp => ?_⟩
  rw [e]
  exact q p ms hp h1 h2
theorem w_cat {a b : Addr} {xs zs : List V} (h1 : H a = some (.lst xs)) (h2 : H b = some (.lst zs)) (hz : xs.length + zs.length ≤ 1000) (q : ∀ p, H p = none → Q (.ref p) (upd H p (.lst (xs ++ zs)))) : rCat (.ref a) (.ref b) H Q := ⟨a, b, xs, zs, rfl, rfl, h1, h2, sz4 hz, q⟩
end
end L

local macro_rules | `(tactic| walk_at "w1") => `(tactic| first
  | ((with_reducible refine' L.use_takeU ?wp ?wa ?wb (fun r o' h0 h1 hp => ?_)); (case wp => assumption); (case wa => omega); (case wb => omega))
  | ((with_reducible refine' L.use_take ?wh ?wp ?wa ?wb (fun r o' h0 h1 hp => ?_)); (case wh => walk_at "hp"); (case wp => assumption); (case wa => omega); (case wb => omega))
  | with_reducible refine L.w_slice ?_
  | with_reducible refine L.w_nopart ?_
  | with_reducible refine L.w_part ?_
  | ((with_reducible refine' L.w_slL ?wh (fun p ms hpf hml hmm => ?_)); (case wh => walk_at "seq"))
  | ((with_reducible refine' L.w_cat ?wa ?wb ?wz (fun p hpf => ?_)); (case wa => walk_at "hp"); (case wb => walk_at "hp"); (case wz => (simp only [List.length_map, List.length_append, List.length_cons, List.length_nil]; omega)))
  | fail "w1")

namespace L
open PySem PySem.Spec PyProof.Rows L2 Z M
section
variable {P : Program} {w : World} {K : PySem.W.Frag} {mg : Str → Option Value} {base : Heap}
theorem ok_chosen (T : Txt K mg) : FnOk P w K mg base CX0 2 T.f_chosen T.fd_chosen ["_law_pool_here"] spChosen := by
  have G_take := ok_take (P := P) (w := w) (base := base) T
  refine T.F_chosen.ok sc_chosen (fun vs H Q E h => ?_) (fun cdv A outer s H vs Q E hr h => ?_)
  · obtain ⟨q, o, rfl, _⟩ := h
    rfl
  · obtain ⟨q, o, rfl, ho, hpo, h⟩ := h
    refine ⟨_, (pss_cons (ps_set (i := 1) sc_chosen.nd rfl (.inl rfl) (pe_lst pa_nil))
 (pss_cons (ps_set (i := 2) sc_chosen.nd rfl (.inl rfl) pe_int)
 (pss_cons (ps_set (i := 3) sc_chosen.nd rfl (.inl rfl) (pe_call G_take (hr.mono (by decide)) (by rfl) T.g_take T.F_take.kp T.b_take .nil pass0 (pa_cons (pv 0) (pa_cons pe_int pa_nil))))
 (pss_cons (ps_for PassesOwn.never rfl (pi_range1 (by rfl) T.m_range (pa_cons pe_int pa_nil)) (pg_name (i := 4) sc_chosen.nd rfl (.inl rfl)) (pss_cons (ps_if (pt_cmpR op_eq (pv 3) pe_int (nomark _)) (pss_one (ps_set (i := 2) sc_chosen.nd rfl (.inl rfl) (pe_op op_add (pe_op op_add (pv 2) pe_int) (pe_call G_take (hr.mono (by decide)) (by rfl) T.g_take T.F_take.kp T.b_take .nil pass0 (pa_cons (pv 0) (pa_cons pe_int pa_nil)))))) (pss_one (ps_set (i := 2) sc_chosen.nd rfl (.inl rfl) (pe_op op_add (pe_op op_add (pv 2) pe_int) (pe_call G_take (hr.mono (by decide)) (by rfl) T.g_take T.F_take.kp T.b_take .nil pass0 (pa_cons (pv 0) (pa_cons pe_int pa_nil)))))))
 (pss_one (ps_expr (pe_bm PySem.F.plainAttrs_list PySem.F.slot_list_append PySem.F.type_list_append mt_append (pv 1) (pa_cons (pv 2) pa_nil))))))
 (pss_one (ps_ret (pv 1))))))), ?_⟩
    refine Z.w_start (σ' := [some (.ref q), none, none, none, none]) rfl ?_
    walk_at "w"
    rename_i d hd r o1 hr0 hr1 hp1
    have hdq : d ≠ q := Ne.symm (ne_of_none ho hd)
    refine ⟨by decide, by decide, ?_⟩
    refine for_range (lo := 0) (n := 6) (fun i σ H' => ∃ (x4 : Option V) (l : Int) (o2 : HO) (ns : List Int), σ = [some (.ref q), some (.ref d), some (.int l), some (.int r), x4] ∧ SX q H H' ∧ H' q = some o2 ∧ IsPool o2 ∧ H' d = some (.lst (ns.map V.int)) ∧ UpI i l ns) ?_ ?_ ?_
    · exact ⟨_, 0, o1, [], rfl, ((SX.refl H).own hd).at, upd_same, hp1, by rw [upd_ne hdq]; exact upd_same, rfl, List.Pairwise.nil, by omega, by simp⟩
    · rintro i σ H' hi ⟨x4, l, o2, ns, rfl, sm, hq2, hpo2, hd2, hu⟩
      have hnl : ns.length = i := hu.1
      walk_at "w"
      walk_at "wi"
      all_goals walk_at "w"
      all_goals rename_i r2 o3 g0 g1 gp
      all_goals exact ⟨_, _, o3, _, rfl, (sm.at).own hd, by rw [upd_ne (Ne.symm hdq)]; exact upd_same, gp, by rw [upd_same, List.map_append]; rfl, up_next hu g0⟩
    · rintro σ H' ⟨x4, l, o2, ns, rfl, sm, hq2, hpo2, hd2, hu⟩
      walk_at "w"
      exact h d ns H' sm hd2 ⟨hu.1, hu.2.1, fun n hn => (hu.2.2.2 n hn).1⟩
theorem use_chosen {q : Addr} {o : HO} {H : Hp} {Q : VK} {E : XK} (ho : H q = some o) (hp : IsPool o) (h : ∀ (a : Addr) (ns : List Int) H', SX q H H' → H' a = some (.lst (ns.map V.int)) → NodesOk ns → Q (.ref a) H') : spChosen [.ref q] H Q E := ⟨q, o, rfl, ho, hp, h⟩
end
end L

namespace L
open PySem PySem.Spec PyProof.Rows L2 Z M
section
variable {P : Program} {w : World} {K : PySem.W.Frag} {mg : Str → Option Value} {base : Heap} {σ : L2.St} {H : Hp} {Q : VK}
def spLits : Sp := fun vs H Q _ => ∃ (q a : Addr) (o : HO) (ns : List Int), vs = [.ref q, .ref a] ∧ a ≠ q ∧ H q = some o ∧ IsPool o ∧ H a = some (.lst (ns.map V.int)) ∧ NodesOk ns ∧ ∀ (p : Addr) (ls : List Int) H', SX q H H' → H' p = some (.lst (ls.map V.int)) → ls.length ≤ 20 → (∀ l ∈ ls, l ≠ 0) → Q (.ref p) H'
theorem ok_literals (T : Txt K mg) : FnOk P w K mg base CX0 2 T.f_literals T.fd_literals ["_law_pool_here", "_law_nodes"] spLits := by
  have G_take := ok_take (P := P) (w := w) (base := base) T
  refine T.F_literals.ok sc_literals (fun vs H Q E h => ?_) (fun cdv A outer s H vs Q E hr h => ?_)
  · obtain ⟨q, a, o, ns, rfl, _⟩ := h
    rfl
  · obtain ⟨q, a, o, ns, rfl, haq, ho, hpo, ha, hns, h⟩ := h
    refine ⟨_, (pss_cons (ps_set (i := 2) sc_literals.nd rfl (.inl rfl) (pe_call G_take (hr.mono (by decide)) (by rfl) T.g_take T.F_take.kp T.b_take .nil pass0 (pa_cons (pv 0) (pa_cons pe_int pa_nil))))
 (pss_cons (ps_set (i := 3) sc_literals.nd rfl (.inl rfl) (pe_call G_take (hr.mono (by decide)) (by rfl) T.g_take T.F_take.kp T.b_take .nil pass0 (pa_cons (pv 0) (pa_cons pe_int pa_nil))))
 (pss_cons (ps_setLc (i := 4) (own := [("_law_k", 5)]) (g := gName 5) (tt := tYes) (by rfl) sc_literals.nd rfl rfl (sw_true rfl rfl rfl (by decide +kernel)) (pi_range1 (by rfl) T.m_range (pa_cons pe_int pa_nil)) (blkOk_by (own := [("_law_k", 5)]) (N := N_literals) (sc := defScope s_literals) (by decide +kernel)) (fun _ _ _ _ _ => pg_name (i := 5) sc_literals.nd rfl (Or.inl rfl)) (fun _ _ _ _ _ => pts_nil) (fun _ _ _ _ _ => (pe_op op_sub pe_int (pe_op op_mul pe_int (pe_call G_take (hr.mono (by decide)) (by rfl) T.g_take T.F_take.kp T.b_take .nil pass0 (pa_cons (pv 0) (pa_cons pe_int pa_nil)))))))
 (pss_cons (ps_set (i := 6) sc_literals.nd rfl (.inl rfl) (pe_lst pa_nil))
 (pss_cons (ps_for PassesOwn.never rfl (pi_range1 (by rfl) T.m_range (pa_cons (pv 3) pa_nil)) (pg_name (i := 5) sc_literals.nd rfl (.inl rfl)) (pss_cons (ps_set (i := 7) sc_literals.nd rfl (.inl rfl) (pe_call G_take (hr.mono (by decide)) (by rfl) T.g_take T.F_take.kp T.b_take .nil pass0 (pa_cons (pv 0) (pa_cons pe_int pa_nil))))
 (pss_cons (ps_set (i := 8) sc_literals.nd rfl (.inl rfl) (pe_ix ix_list (pv 4) (pv 7) (fun _ _ => rfl)))
 (pss_cons (ps_if (pt_cmpR op_eq (pv 2) pe_int (nomark _)) (pss_one (ps_set (i := 8) sc_literals.nd rfl (.inl rfl) (pe_op op_sub pe_int (pe_op op_mul pe_int (pe_call G_take (hr.mono (by decide)) (by rfl) T.g_take T.F_take.kp T.b_take .nil pass0 (pa_cons (pv 0) (pa_cons pe_int pa_nil))))))) pss_nil)
 (pss_one (ps_expr (pe_bm PySem.F.plainAttrs_list PySem.F.slot_list_append PySem.F.type_list_append mt_append (pv 6) (pa_cons (pe_op op_mul (pv 8) (pe_ix ix_list (pv 1) (pv 7) (fun _ _ => rfl))) pa_nil))))))))
 (pss_cons (ps_if (PW.pt (pw_and (pt_cmpR op_eq (pv 2) pe_int (nomark _)) (pw_and1 (pt_cmpR op_gt (pv 3) pe_int (nomark _))))) (pss_cons (ps_set (i := 9) sc_literals.nd rfl (.inl rfl) (pe_op op_sub pe_int (pe_ix ix_list (pv 6) (pe_call G_take (hr.mono (by decide)) (by rfl) T.g_take T.F_take.kp T.b_take .nil pass0 (pa_cons (pv 0) (pa_cons (pv 3) pa_nil))) (fun _ _ => rfl))))
 (pss_cons (ps_set (i := 7) sc_literals.nd rfl (.inl rfl) (pe_call G_take (hr.mono (by decide)) (by rfl) T.g_take T.F_take.kp T.b_take .nil pass0 (pa_cons (pv 0) (pa_cons (pe_op op_add (pv 3) pe_int) pa_nil))))
 (pss_one (ps_set (i := 6) sc_literals.nd rfl (.inl rfl) (pe_op op_cat (pe_op op_cat (pe_slice sl_list (pv 6) po_none (po_some (pv 7))) (pe_lst (pa_cons (pv 9) pa_nil))) (pe_slice sl_list (pv 6) (po_some (pv 7)) po_none)))))) pss_nil)
 (pss_one (ps_ret (pv 6))))))))), ?_⟩
    refine Z.w_start (σ' := [some (.ref q), some (.ref a), none, none, none, none, none, none, none, none]) rfl ?_
    walk_at "w"
    rename_i m o1 m0 m1 hp1 n o2 n0 n1 hp2
    refine ⟨by decide, by decide, fun D hD => ?_⟩
    obtain ⟨hDq, hDn⟩ := fresh_of hD
    refine lc_range (lo := 0) (n := 6) (fun i H' => SX q H H' ∧ (∃ o3, H' q = some o3 ∧ IsPool o3) ∧ ∃ sg : List Int, H' D = some (.lst (sg.map V.int)) ∧ sg.length = i ∧ ∀ x ∈ sg, x = 1 ∨ x = -1) ?_ ?_ ?_
    · refine ⟨((SX.refl H).at).own hDn, ⟨_, by rw [upd_ne (Ne.symm hDq)]; exact upd_same, hp2⟩, [], upd_same, rfl, by simp⟩
    · rintro i H' hi ⟨sm, ⟨o3, hq3, hp3⟩, sg, hsg, hl, h0⟩
      refine Z.w_gname (σ' := [some (.ref q), some (.ref a), some (.int m), some (.int n), none, some (.int (0 + i)), none, none, none, none]) rfl ?_
      refine ⟨rfl, ?_⟩
      walk_at "w"
      rename_i r o4 g0 g1 gp
      refine ⟨sg.map V.int, by rw [upd_ne hDq]; exact hsg, by rw [List.length_map, hl]; exact Nat.lt_trans hi (by decide), (sm.at).own hDn, ⟨_, by rw [upd_ne (Ne.symm hDq)]; exact upd_same, gp⟩, sg ++ [1 - 2 * r], ?_, ?_, ?_⟩
      · rw [upd_same, List.map_append]
        rfl
      · rw [List.length_append, hl]
        rfl
      · intro x hx
        rcases List.mem_append.mp hx with h | h
        · exact h0 x h
        · rw [List.mem_singleton.mp h]
          omega
    · rintro H1 ⟨s1, ⟨o3, hq3, hp3⟩, sg, hsg, hsl, hs0⟩
      walk_at "w"
      rename_i L hL
      have hLH : H L = none := s1.free hq3 hL
      have hLq : L ≠ q := Ne.symm (ne_of_none hq3 hL)
      have hLD : L ≠ D := Ne.symm (ne_of_none hsg hL)
      have hqL : q ≠ L := Ne.symm hLq
      have hqD : q ≠ D := Ne.symm hDq
      have hDL : D ≠ L := Ne.symm hLD
      have hqa : q ≠ a := Ne.symm haq
      refine ⟨by omega, by omega, ?_⟩
      refine for_range (lo := 0) (n := _) (fun i σ H' => ∃ (x5 x7 x8 : Option V) (o4 : HO) (ls : List Int), σ = [some (.ref q), some (.ref a), some (.int m), some (.int n), some (.ref D), x5, some (.ref L), x7, x8, none] ∧ SX q H H' ∧ H' q = some o4 ∧ IsPool o4 ∧ H' D = some (.lst (sg.map V.int)) ∧ H' L = some (.lst (ls.map V.int)) ∧ ls.length = i ∧ ∀ x ∈ ls, x ≠ 0) ?_ ?_ ?_
      · exact ⟨_, _, _, o3, [], rfl, s1.own hLH, by rw [upd_ne hqL]; exact hq3, hp3, by rw [upd_ne hDL]; exact hsg, upd_same, rfl, by simp⟩
      · rintro i σ H' hi ⟨x5, x7, x8, o4, ls, rfl, sm, hq4, hp4, hsg2, hL2, hll, hl0⟩
        have ha2 := sm a _ haq ha
        walk_at "w"
        rename_i r o5 g0 g1 gp
        obtain ⟨z, az, zm⟩ := pick (ns := sg) (k := r) g0 (by omega)
        obtain ⟨y, ay, ym⟩ := pick (ns := ns) (k := r) g0 (by have := hns.1; omega)
        have y0 := hns.2.2 y ym
        have z1 := hs0 z zm
        walk_at "w"
        walk_at "wi"
        · walk_at "w"
          rename_i r2 o6 b0 b1 bp
          refine ⟨_, _, _, o6, ls ++ [(1 - 2 * r2) * y], rfl, (sm.at).own hLH, by rw [upd_ne hqL]; exact upd_same, bp, by rw [upd_ne hDL, upd_ne hDq]; exact hsg2, by rw [upd_same, List.map_append]; rfl, by rw [List.length_append, hll]; rfl, fun x hx => ?_⟩
          rcases List.mem_append.mp hx with h | h
          · exact hl0 x h
          · rw [List.mem_singleton.mp h]
            exact Int.mul_ne_zero (by omega) (by omega)
        · walk_at "w"
          refine ⟨_, _, _, o5, ls ++ [z * y], rfl, (sm.at).own hLH, by rw [upd_ne hqL]; exact upd_same, gp, by rw [upd_ne hDL, upd_ne hDq]; exact hsg2, by rw [upd_same, List.map_append]; rfl, by rw [List.length_append, hll]; rfl, fun x hx => ?_⟩
          rcases List.mem_append.mp hx with h | h
          · exact hl0 x h
          · rw [List.mem_singleton.mp h]
            exact Int.mul_ne_zero (by omega) (by omega)
      · rintro σ H' ⟨x5, x7, x8, o4, ls, rfl, sm, hq4, hp4, hsg2, hL2, hll, hl0⟩
        have fin := h L ls H' sm hL2 (by omega) hl0
        walk_at "w"
        walk_at "wi"
        · walk_at "w"
          walk_at "wi"
          · rename_i hn0
            walk_at "w"
            rename_i r o5 g0 g1 gp
            obtain ⟨z, az, zm⟩ := pick (ns := ls) (k := r) g0 (by omega)
            walk_at "w"
            rename_i r2 o6 b0 b1 bp p1 ms1 f1 l1 m1 p2 f2 p3 f3 p4 ms4 f4 l4 m4 p5 f5
            refine h p5 (ms1 ++ [0 - z] ++ ms4) _ (SX.of (H1 := upd H' q o6) sm.at ?_) ?_ ?_ ?_
            · walk_at "same"
            · rw [upd_same, List.map_append, List.map_append]
              rfl
            · simp only [List.length_append, List.length_cons, List.length_nil]
              omega
            · intro x hx
              rcases List.mem_append.mp hx with h | h
              · rcases List.mem_append.mp h with h | h
                · exact hl0 x (m1 x h)
                · rw [List.mem_singleton.mp h]
                  have := hl0 z zm
                  omega
              · exact hl0 x (m4 x h)
          · walk_at "w"
            exact fin
        · walk_at "w"
          exact fin
theorem use_lits {q a : Addr} {o : HO} {ns : List Int} {H : Hp} {Q : VK} {E : XK} (h1 : a ≠ q) (ho : H q = some o) (hp : IsPool o) (ha : H a = some (.lst (ns.map V.int))) (hn : NodesOk ns)
    (h : ∀ (p : Addr) (ls : List Int) H', SX q H H' → H' p = some (.lst (ls.map V.int)) → ls.length ≤ 20 → (∀ l ∈ ls, l ≠ 0) → Q (.ref p) H') : spLits [.ref q, .ref a] H Q E := ⟨q, a, o, ns, rfl, h1, ho, hp, ha, hn, h⟩
end
end L

namespace L
open PySem PySem.Spec PyProof.Rows L2 Z M
section
variable {P : Program} {w : World} {K : PySem.W.Frag} {mg : Str → Option Value} {base : Heap} {σ : L2.St} {H : Hp} {Q : VK}
/-- a clause over the nodes -/
def COk (ns c : List Int) : Prop := c.length ≤ 6 ∧ ∀ x ∈ c, x ≠ 0 ∧ (x.natAbs : Int) ∈ ns
def SgOk (sg : List Int) : Prop := sg.length = 6 ∧ ∀ x ∈ sg, x = 1 ∨ x = 0 ∨ x = -1
def spSigned : Sp := fun vs H Q _ => ∃ (b a : Addr) (sg ns : List Int), vs = [.ref b, .ref a] ∧ H b = some (.lst (sg.map V.int)) ∧ SgOk sg ∧ H a = some (.lst (ns.map V.int)) ∧ NodesOk ns ∧ ∀ (p : Addr) (c : List Int) H', Same H H' → H p = none → H' p = some (.tup (c.map V.int)) → COk ns c → Q (.ref p) H'
theorem ok_signed (T : Txt K mg) : FnOk P w K mg base CX0 2 T.f_signed T.fd_signed ["_law_signs", "_law_nodes"] spSigned := by
  refine T.F_signed.ok sc_signed (fun vs H Q E h => ?_) (fun cdv A outer s H vs Q E hr h => ?_)
  · obtain ⟨b, a, sg, ns, rfl, _⟩ := h
    rfl
  · obtain ⟨b, a, sg, ns, rfl, hb, hsg, ha, hns, h⟩ := h
    refine ⟨_, (pss_one (ps_ret (pe_callTy call_tuple_of (by rfl) T.m_tuple (by decide +kernel) (pa_cons (pe_lc (own := [("_law_k", 2)]) (g := gName 2) (by rfl) sc_signed.nd (pi_range1 (by rfl) T.m_range (pa_cons pe_int pa_nil)) (blkOk_by (own := [("_law_k", 2)]) (N := N_signed) (sc := defScope s_signed) (by decide +kernel)) (fun _ _ _ _ _ => pg_name (i := 2) sc_signed.nd rfl (Or.inl rfl)) (fun _ _ _ _ _ => pts_one (pt_cmpR op_ne (pe_ix (show IxR _ (rIxL K) from ix_list) (pv 0) (pv 2) (fun _ _ => rfl)) pe_int (nomark _))) (fun _ _ _ _ _ => (pe_op op_mul (pe_ix (show IxR _ (rIxL K) from ix_list) (pv 0) (pv 2) (fun _ _ => rfl)) (pe_ix (show IxR _ (rIxL K) from ix_list) (pv 1) (pv 2) (fun _ _ => rfl))))) pa_nil)))), ?_⟩
    refine Z.w_start (σ' := [some (.ref b), some (.ref a), none]) rfl ?_
    walk_at "w"
    refine ⟨by decide, by decide, fun D hD => ?_⟩
    refine lc_range (lo := 0) (n := 6) (fun i H' => Same H H' ∧ ∃ c : List Int, H' D = some (.lst (c.map V.int)) ∧ c.length ≤ i ∧ ∀ x ∈ c, x ≠ 0 ∧ (x.natAbs : Int) ∈ ns) ?_ ?_ ?_
    · exact ⟨same_of (Same.refl _) hD, [], upd_same, Nat.le_refl _, by simp⟩
    · rintro i H' hi ⟨sm, c, hc, hl, h0⟩
      have hb2 := sm _ _ hb
      have ha2 := sm _ _ ha
      obtain ⟨z, az, zm⟩ := pick (ns := sg) (k := 0 + (i : Int)) (by omega) (by have := hsg.1; omega)
      obtain ⟨y, ay, ym⟩ := pick (ns := ns) (k := 0 + (i : Int)) (by omega) (by have := hns.1; omega)
      have z1 := hsg.2 z zm
      have y0 := hns.2.2 y ym
      refine Z.w_gname (σ' := [some (.ref b), some (.ref a), some (.int (0 + i))]) rfl ?_
      refine ⟨rfl, ?_⟩
      walk_at "w"
      walk_at "wi"
      · rename_i hz
        walk_at "w"
        refine ⟨c.map V.int, hc, by rw [List.length_map]; exact Nat.lt_of_le_of_lt hl (Nat.lt_trans hi (by decide)), same_mut sm hD, c ++ [z * y], by rw [upd_same, List.map_append]; rfl, by rw [List.length_append, List.length_singleton]; omega, fun x hx => ?_⟩
        rcases List.mem_append.mp hx with h | h
        · exact h0 x h
        · rw [List.mem_singleton.mp h]
          have : z = 1 ∨ z = -1 := by omega
          rcases this with e | e
          · rw [e, Int.one_mul]
            refine ⟨by omega, ?_⟩
            rw [show (y.natAbs : Int) = y by omega]
            exact ym
          · rw [e, Int.neg_mul, Int.one_mul]
            refine ⟨by omega, ?_⟩
            rw [show ((-y).natAbs : Int) = y by omega]
            exact ym
      · walk_at "w"
        exact ⟨sm, c, hc, by omega, h0⟩
    · rintro H1 ⟨sm, c, hc, hl, h0⟩
      walk_at "w"
      exact ⟨D, _, rfl, .inl ⟨.inl (.inl hc), fun t ht => h t c _ (same_of sm ht) (sm.free ht) upd_same ⟨hl, h0⟩⟩⟩
theorem use_signed {b a : Addr} {sg ns : List Int} {H : Hp} {Q : VK} {E : XK} (h1 : H b = some (.lst (sg.map V.int))) (h2 : SgOk sg) (h3 : H a = some (.lst (ns.map V.int))) (h4 : NodesOk ns) (h : ∀ (p : Addr) (c : List Int) H', Same H H' → H p = none → H' p = some (.tup (c.map V.int)) → COk ns c → Q (.ref p) H') : spSigned [.ref b, .ref a] H Q E := ⟨b, a, sg, ns, rfl, h1, h2, h3, h4, h⟩
theorem lc_zeros {D : Addr} {g : TG} {tt : TT} {te : TE} {ivs : List Nat} {σ : L2.St} {H : Hp} {Qd : Hp → Prop} (hD : H D = none)
    (hd : ∀ H' sg, Same H H' → SgOk sg → H' D = some (.lst (sg.map V.int)) → Qd H')
    (hs : ∀ (i : Nat) (H' : Hp) (R : L2.St → Hp → Prop), (∀ σ2, wipe σ2 ivs = wipe σ ivs → (∀ (Q : VK), Q (.int 0) H' → te σ2 H' Q) → (∀ (R : Bool → Hp → Prop), R true H' → tt σ2 H' R) → R σ2 H') → g (.int (0 + (i : Int))) (wipe σ ivs) H' R) :
    ∃ W : Nat → Nat → Hp → Prop, (∃ m, W 0 m (upd H D (.lst []))) ∧ ∀ i m H, W i m H →
      ((Itr 0 (Int.toNat 6)).stop i H ∧ Qd H) ∨ ((Itr 0 (Int.toNat 6)).go i H ∧ ∃ Nx : Hp → Prop, (∀ H', Nx H' → ∃ m', m' < m ∧ W (i + 1) m' H') ∧ ∀ x H', (Itr 0 (Int.toNat 6)).yld i H x H' → g x (wipe σ ivs) H' fun σ2 H2 => wipe σ2 ivs = wipe σ ivs ∧ tt σ2 H2 fun b H3 =>
        if b = true then te σ2 H3 fun y H4 => ∃ acc, H4 D = some (.lst acc) ∧ acc.length < sizeLine ∧ Nx (upd H4 D (.lst (acc ++ [y]))) else Nx H3) := by
  refine lc_range (lo := 0) (n := 6) (fun i H' => Same H H' ∧ H' D = some (.lst ((List.replicate i (0 : Int)).map V.int))) ?_ ?_ ?_
  · exact ⟨same_of (Same.refl _) hD, upd_same⟩
  · rintro i H' hi ⟨sm, hc⟩
    refine hs i H' _ fun σ2 e1 e3 e4 => ⟨e1, e4 _ ?_⟩
    rw [if_pos rfl]
    refine e3 _ ⟨_, hc, by rw [List.length_map, List.length_replicate]; exact Nat.lt_trans hi (by decide), same_mut sm hD, ?_⟩
    rw [upd_same, List.replicate_succ', List.map_append]
    rfl
  · intro H' ⟨sm, hc⟩
    exact hd H' _ sm ⟨rfl, fun x hx => .inr (.inl (List.eq_of_mem_replicate hx))⟩ hc
theorem lc_takes {q D : Addr} {o : HO} {g : TG} {tt : TT} {te : TE} {ivs : List Nat} {σ : L2.St} {H : Hp} {Qd : Hp → Prop} (hD : H D = none) (hq : H q = some o) (hp : IsPool o)
    (hd : ∀ H' sg o', SX q H H' → H' q = some o' → IsPool o' → SgOk sg → H' D = some (.lst (sg.map V.int)) → Qd H')
    (hs : ∀ (i : Nat) (H' : Hp) (o' : HO) (R : L2.St → Hp → Prop), H' q = some o' → IsPool o' → (∀ σ2, wipe σ2 ivs = wipe σ ivs → (∀ (Q : VK), (∀ r o2, 0 ≤ r → r < 3 → IsPool o2 → Q (.int (r - 1)) (upd H' q o2)) → te σ2 H' Q) → (∀ (R : Bool → Hp → Prop), R true H' → tt σ2 H' R) → R σ2 H') → g (.int (0 + (i : Int))) (wipe σ ivs) H' R) :
    ∃ W : Nat → Nat → Hp → Prop, (∃ m, W 0 m (upd H D (.lst []))) ∧ ∀ i m H, W i m H →
      ((Itr 0 (Int.toNat 6)).stop i H ∧ Qd H) ∨ ((Itr 0 (Int.toNat 6)).go i H ∧ ∃ Nx : Hp → Prop, (∀ H', Nx H' → ∃ m', m' < m ∧ W (i + 1) m' H') ∧ ∀ x H', (Itr 0 (Int.toNat 6)).yld i H x H' → g x (wipe σ ivs) H' fun σ2 H2 => wipe σ2 ivs = wipe σ ivs ∧ tt σ2 H2 fun b H3 =>
        if b = true then te σ2 H3 fun y H4 => ∃ acc, H4 D = some (.lst acc) ∧ acc.length < sizeLine ∧ Nx (upd H4 D (.lst (acc ++ [y]))) else Nx H3) := by
  have hDq : D ≠ q := Ne.symm (ne_of_none hq hD)
  refine lc_range (lo := 0) (n := 6) (fun i H' => SX q H H' ∧ (∃ o', H' q = some o' ∧ IsPool o') ∧ ∃ sg : List Int, sg.length = i ∧ (∀ x ∈ sg, x = 1 ∨ x = 0 ∨ x = -1) ∧ H' D = some (.lst (sg.map V.int))) ?_ ?_ ?_
  · exact ⟨(SX.refl H).own hD, ⟨o, by rw [upd_ne (Ne.symm hDq)]; exact hq, hp⟩, [], rfl, by simp, upd_same⟩
  · rintro i H' hi ⟨sm, ⟨o', hq', hp'⟩, sg, hl, h0, hc⟩
    refine hs i H' o' _ hq' hp' fun σ2 e1 e3 e4 => ⟨e1, e4 _ ?_⟩
    rw [if_pos rfl]
    refine e3 _ fun r o2 a b c => ⟨_, by rw [upd_ne hDq]; exact hc, by rw [List.length_map, hl]; exact Nat.lt_trans hi (by decide), sm.at.own hD, ⟨o2, by rw [upd_ne (Ne.symm hDq)]; exact upd_same, c⟩, sg ++ [r - 1], by rw [List.length_append, hl]; rfl, fun x hx => ?_, by rw [upd_same, List.map_append]; rfl⟩
    rcases List.mem_append.mp hx with h | h
    · exact h0 x h
    · rw [List.mem_singleton.mp h]
      omega
  · rintro H' ⟨sm, ⟨o', hq', hp'⟩, sg, hl, h0, hc⟩
    exact hd H' sg o' sm hq' hp' ⟨hl, h0⟩ hc
theorem SgOk.set {sg : List Int} {x : Int} {j : Nat} (h : SgOk sg) (hx : x = 1 ∨ x = 0 ∨ x = -1) : SgOk (sg.set j x) := by
  refine ⟨by rw [List.length_set]; exact h.1, fun y hy => ?_⟩
  rcases List.mem_or_eq_of_mem_set hy with a | a
  · exact h.2 y a
  · rw [a]
    exact hx
theorem w_setI {p : Addr} {sg : List Int} {k x : Int} {H : Hp} {R : Hp → Prop} (h : H p = some (.lst (sg.map V.int))) (hg : SgOk sg) (h0 : 0 ≤ k) (h1 : k < 6) (hx : x = 1 ∨ x = 0 ∨ x = -1) (q : ∀ sg', SgOk sg' → R (upd H p (.lst (sg'.map V.int)))) : rSetL (.ref p) (.int k) (.int x) H R := by
  obtain ⟨j, rfl⟩ := Int.eq_ofNat_of_zero_le h0
  refine ⟨p, _, _, j, rfl, rfl, h, ?_, ?_⟩
  · rw [List.length_map, hg.1]
    unfold ixN
    rw [if_pos (by omega), if_pos (by omega)]
    congr 1
  · have := q _ (hg.set (j := j) hx)
    rw [List.map_set] at this
    exact this
def spTwo : Sp := fun vs H Q _ => ∃ (q a : Addr) (o : HO) (ns : List Int), vs = [.ref q, .ref a] ∧ a ≠ q ∧ H q = some o ∧ IsPool o ∧ H a = some (.lst (ns.map V.int)) ∧ NodesOk ns ∧
  ∀ (t p1 p2 : Addr) (c d : List Int) H', SX q H H' → H' t = some (.tup [.ref p1, .ref p2]) → H' p1 = some (.tup (c.map V.int)) → H' p2 = some (.tup (d.map V.int)) → COk ns c → COk ns d → Q (.ref t) H'
end
end L

local macro_rules | `(tactic| walk_at "w1") => `(tactic| first
  | ((with_reducible refine' L.w_setI ?wh ?wg ?wa ?wb ?wc (fun sg' hsg' => ?_)); (case wh => walk_at "hp"); (case wg => assumption); (case wa => omega); (case wb => omega); (case wc => omega))
  | fail "w1")
namespace L
open PySem PySem.Spec PyProof.Rows L2 Z M
section
variable {P : Program} {w : World} {K : PySem.W.Frag} {mg : Str → Option Value} {base : Heap} {σ : L2.St} {H : Hp} {Q : VK}
def TwoI (q D1 D2 : Addr) (H H' : Hp) : Prop := SX q H H' ∧ (∃ o, H' q = some o ∧ IsPool o) ∧ (∃ sg, SgOk sg ∧ H' D1 = some (.lst (sg.map V.int))) ∧ ∃ sg, SgOk sg ∧ H' D2 = some (.lst (sg.map V.int))
theorem ok_two (T : Txt K mg) : FnOk P w K mg base CX0 3 T.f_two T.fd_two ["_law_pool_here", "_law_nodes"] spTwo := by
  have G_take := ok_take (P := P) (w := w) (base := base) T
  have G_signed := ok_signed (P := P) (w := w) (base := base) T
  refine T.F_two.ok sc_two (fun vs H Q E h => ?_) (fun cdv A outer s H vs Q E hr h => ?_)
  · obtain ⟨q, a, o, ns, rfl, _⟩ := h
    rfl
  · obtain ⟨q, a, o, ns, rfl, haq, ho, hpo, ha, hns, h⟩ := h
    have fin : ∀ (D1 D2 : Addr) (sg1 sg2 : List Int) (H' : Hp), SX q H H' → SgOk sg1 → SgOk sg2 → H' D1 = some (.lst (sg1.map V.int)) → H' D2 = some (.lst (sg2.map V.int)) →
        ∀ F : VK, (∀ x H1, spSigned [.ref D2, .ref a] H1 (fun y H2 => [x, y].length ≤ sizeLine ∧ ∀ p, H2 p = none → Q (.ref p) (upd H2 p (.tup [x, y]))) E0 → F x H1) → spSigned [.ref D1, .ref a] H' F E0 := by
      intro D1 D2 sg1 sg2 H' sm h1 h2 e1 e2 F hF
      have ha2 := sm _ _ haq ha
      refine use_signed e1 h1 ha2 hns fun p1 c H1 s1 f1 g1 k1 => hF _ _ ?_
      refine use_signed (s1 _ _ e2) h2 (s1 _ _ ha2) hns fun p2 d H2 s2 f2 g2 k2 => ?_
      refine ⟨sz4 (show 2 ≤ 1000 by decide), fun t ht => ?_⟩
      exact h t p1 p2 c d _ (SX.of sm ((s1.trans s2).trans (same_of (Same.refl _) ht))) upd_same (by rw [upd_ne (ne_of_none (s2 _ _ g1) ht)]; exact s2 _ _ g1) (by rw [upd_ne (ne_of_none g2 ht)]; exact g2) k1 k2
    refine ⟨_, (pss_cons (ps_set (i := 2) sc_two.nd rfl (.inl rfl) (pe_call G_take (hr.mono (by decide)) (by rfl) T.g_take T.F_take.kp T.b_take .nil pass0 (pa_cons (pv 0) (pa_cons pe_int pa_nil))))
 (pss_cons (ps_if (pt_cmpR op_eq (pv 2) pe_int (nomark _)) (pss_cons (ps_setLc (i := 3) (own := [("_law_k", 5)]) (g := gName 5) (tt := tYes) (by rfl) sc_two.nd rfl rfl (sw_true rfl rfl rfl (by decide +kernel)) (pi_range1 (by rfl) T.m_range (pa_cons pe_int pa_nil)) (blkOk_by (own := [("_law_k", 5)]) (N := N_two) (sc := defScope s_two) (by decide +kernel)) (fun _ _ _ _ _ => pg_name (i := 5) sc_two.nd rfl (Or.inl rfl)) (fun _ _ _ _ _ => pts_nil) (fun _ _ _ _ _ => (pe_op op_sub (pe_call G_take (hr.mono (by decide)) (by rfl) T.g_take T.F_take.kp T.b_take .nil pass0 (pa_cons (pv 0) (pa_cons pe_int pa_nil))) pe_int)))
 (pss_cons (ps_setLc (i := 4) (own := [("_law_k", 5)]) (g := gName 5) (tt := tYes) (by rfl) sc_two.nd rfl rfl (sw_true rfl rfl rfl (by decide +kernel)) (pi_range1 (by rfl) T.m_range (pa_cons pe_int pa_nil)) (blkOk_by (own := [("_law_k", 5)]) (N := N_two) (sc := defScope s_two) (by decide +kernel)) (fun _ _ _ _ _ => pg_name (i := 5) sc_two.nd rfl (Or.inl rfl)) (fun _ _ _ _ _ => pts_nil) (fun _ _ _ _ _ => (pe_op op_sub (pe_call G_take (hr.mono (by decide)) (by rfl) T.g_take T.F_take.kp T.b_take .nil pass0 (pa_cons (pv 0) (pa_cons pe_int pa_nil))) pe_int)))
 (pss_one (ps_ret (pe_tup (pa_cons (pe_call G_signed (hr.mono (by decide)) (by rfl) T.g_signed T.F_signed.kp T.b_signed .nil pass0 (pa_cons (pv 3) (pa_cons (pv 1) pa_nil))) (pa_cons (pe_call G_signed (hr.mono (by decide)) (by rfl) T.g_signed T.F_signed.kp T.b_signed .nil pass0 (pa_cons (pv 4) (pa_cons (pv 1) pa_nil))) pa_nil))))))) pss_nil)
 (pss_cons (ps_setLc (i := 3) (own := [("_law_k", 5)]) (g := gName 5) (tt := tYes) (by rfl) sc_two.nd rfl rfl (sw_true rfl rfl rfl (by decide +kernel)) (pi_range1 (by rfl) T.m_range (pa_cons pe_int pa_nil)) (blkOk_by (own := [("_law_k", 5)]) (N := N_two) (sc := defScope s_two) (by decide +kernel)) (fun _ _ _ _ _ => pg_name (i := 5) sc_two.nd rfl (Or.inl rfl)) (fun _ _ _ _ _ => pts_nil) (fun _ _ _ _ _ => pe_int))
 (pss_cons (ps_setLc (i := 4) (own := [("_law_k", 5)]) (g := gName 5) (tt := tYes) (by rfl) sc_two.nd rfl rfl (sw_true rfl rfl rfl (by decide +kernel)) (pi_range1 (by rfl) T.m_range (pa_cons pe_int pa_nil)) (blkOk_by (own := [("_law_k", 5)]) (N := N_two) (sc := defScope s_two) (by decide +kernel)) (fun _ _ _ _ _ => pg_name (i := 5) sc_two.nd rfl (Or.inl rfl)) (fun _ _ _ _ _ => pts_nil) (fun _ _ _ _ _ => pe_int))
 (pss_cons (ps_set (i := 6) sc_two.nd rfl (.inl rfl) (pe_cmpR op_eq (pe_call G_take (hr.mono (by decide)) (by rfl) T.g_take T.F_take.kp T.b_take .nil pass0 (pa_cons (pv 0) (pa_cons pe_int pa_nil))) pe_int (nomark _)))
 (pss_cons (ps_for PassesOwn.never rfl (pi_range1 (by rfl) T.m_range (pa_cons pe_int pa_nil)) (pg_name (i := 5) sc_two.nd rfl (.inl rfl)) (pss_cons (ps_set (i := 7) sc_two.nd rfl (.inl rfl) (pe_call G_take (hr.mono (by decide)) (by rfl) T.g_take T.F_take.kp T.b_take .nil pass0 (pa_cons (pv 0) (pa_cons pe_int pa_nil))))
 (pss_cons (ps_set (i := 8) sc_two.nd rfl (.inl rfl) (pe_op op_sub pe_int (pe_op op_mul pe_int (pe_call G_take (hr.mono (by decide)) (by rfl) T.g_take T.F_take.kp T.b_take .nil pass0 (pa_cons (pv 0) (pa_cons pe_int pa_nil))))))
 (pss_cons (ps_if (PW.pt (pw_and (pt_not (pt_val (pv 6))) (pw_and1 (PW.pt (pw_or (pt_cmpR op_eq (pv 7) pe_int (nomark _)) (pw_or1 (pt_cmpR op_eq (pv 7) pe_int (nomark _)))))))) (pss_one (ps_asg (pv 8) (pg_sub (pv 3) (pv 5) set_list))) pss_nil)
 (pss_one (ps_if (PW.pt (pw_and (pt_not (pt_val (pv 6))) (pw_and1 (pt_cmpR op_gt (pv 7) pe_int (nomark _))))) (pss_one (ps_asg (pv 8) (pg_sub (pv 4) (pv 5) set_list))) pss_nil))))))
 (pss_cons (ps_set (i := 9) sc_two.nd rfl (.inl rfl) (pe_call G_take (hr.mono (by decide)) (by rfl) T.g_take T.F_take.kp T.b_take .nil pass0 (pa_cons (pv 0) (pa_cons pe_int pa_nil))))
 (pss_cons (ps_for PassesOwn.never rfl (pi_range1 (by rfl) T.m_range (pa_cons (pe_op op_add pe_int (pe_callTy call_int1 (by rfl) T.m_int (by decide +kernel) (pa_cons (pe_cmpR op_eq (pv 2) pe_int (nomark _)) pa_nil))) pa_nil)) (pg_name (i := 5) sc_two.nd rfl (.inl rfl)) (pss_cons (ps_set (i := 8) sc_two.nd rfl (.inl rfl) (pe_op op_sub pe_int (pe_op op_mul pe_int (pe_call G_take (hr.mono (by decide)) (by rfl) T.g_take T.F_take.kp T.b_take .nil pass0 (pa_cons (pv 0) (pa_cons pe_int pa_nil))))))
 (pss_cons (ps_asg (pv 8) (pg_sub (pv 3) (pv 9) set_list))
 (pss_cons (ps_asg (pe_op op_sub pe_int (pv 8)) (pg_sub (pv 4) (pv 9) set_list))
 (pss_one (ps_set (i := 9) sc_two.nd rfl (.inl rfl) (pe_op op_mod (pe_callTy call_int1 (by rfl) T.m_int (by decide +kernel) (pa_cons (pe_op op_add (pe_op op_add (pv 9) pe_int) (pe_call G_take (hr.mono (by decide)) (by rfl) T.g_take T.F_take.kp T.b_take .nil pass0 (pa_cons (pv 0) (pa_cons pe_int pa_nil)))) pa_nil)) pe_int)))))))
 (pss_cons (ps_if (PW.pt (pw_and (pt_cmpR op_eq (pv 2) pe_int (nomark _)) (pw_and1 (pt_cmpR op_eq (pe_call G_take (hr.mono (by decide)) (by rfl) T.g_take T.F_take.kp T.b_take .nil pass0 (pa_cons (pv 0) (pa_cons pe_int pa_nil))) pe_int (nomark _))))) (pss_one (ps_setLc (i := 3) (own := [("_law_k", 5)]) (g := gName 5) (tt := tYes) (by rfl) sc_two.nd rfl rfl (sw_true rfl rfl rfl (by decide +kernel)) (pi_range1 (by rfl) T.m_range (pa_cons pe_int pa_nil)) (blkOk_by (own := [("_law_k", 5)]) (N := N_two) (sc := defScope s_two) (by decide +kernel)) (fun _ _ _ _ _ => pg_name (i := 5) sc_two.nd rfl (Or.inl rfl)) (fun _ _ _ _ _ => pts_nil) (fun _ _ _ _ _ => pe_int))) (pss_one (ps_if (pt_cmpR op_eq (pv 2) pe_int (nomark _)) (pss_one (ps_setLc (i := 4) (own := [("_law_k", 5)]) (g := gName 5) (tt := tYes) (by rfl) sc_two.nd rfl rfl (sw_true rfl rfl rfl (by decide +kernel)) (pi_range1 (by rfl) T.m_range (pa_cons pe_int pa_nil)) (blkOk_by (own := [("_law_k", 5)]) (N := N_two) (sc := defScope s_two) (by decide +kernel)) (fun _ _ _ _ _ => pg_name (i := 5) sc_two.nd rfl (Or.inl rfl)) (fun _ _ _ _ _ => pts_nil) (fun _ _ _ _ _ => pe_int))) pss_nil)))
 (pss_one (ps_ret (pe_tup (pa_cons (pe_call G_signed (hr.mono (by decide)) (by rfl) T.g_signed T.F_signed.kp T.b_signed .nil pass0 (pa_cons (pv 3) (pa_cons (pv 1) pa_nil))) (pa_cons (pe_call G_signed (hr.mono (by decide)) (by rfl) T.g_signed T.F_signed.kp T.b_signed .nil pass0 (pa_cons (pv 4) (pa_cons (pv 1) pa_nil))) pa_nil)))))))))))))), ?_⟩
    refine Z.w_start (σ' := [some (.ref q), some (.ref a), none, none, none, none, none, none, none, none]) rfl ?_
    walk_at "w"
    rename_i m o1 m0 m1 hp1
    walk_at "wi"
    · walk_at "w"
      refine ⟨by decide, by decide, fun D1 hD1 => ?_⟩
      obtain ⟨hD1q, hD1n⟩ := fresh_of hD1
      refine lc_takes hD1 upd_same hp1 (fun H1 sg1 o2 s1 q1 hp2 hg1 e1 => ?_) fun i H' o' R hq' hp' k => ?_
      case refine_2 =>
        refine Z.w_gname (σ' := [some (.ref q), some (.ref a), some (.int m), none, none, some (.int (0 + i)), none, none, none, none]) rfl ?_
        refine k _ rfl (fun Q k2 => ?_) fun R q => q
        walk_at "w"
        exact k2 _ _ (by assumption) (by assumption) (by assumption)
      have s1' : SX q H H1 := SX.trans (SX.refl H).at s1
      walk_at "w"
      refine ⟨by decide, by decide, fun D2 hD2 => ?_⟩
      have hD21 : D2 ≠ D1 := Ne.symm (ne_of_none e1 hD2)
      refine lc_takes hD2 q1 hp2 (fun H2 sg2 o3 s2 q2 hp3 hg2 e2 => ?_) fun i H' o' R hq' hp' k => ?_
      case refine_2 =>
        refine Z.w_gname (σ' := [some (.ref q), some (.ref a), some (.int m), some (.ref D1), none, some (.int (0 + i)), none, none, none, none]) rfl ?_
        refine k _ rfl (fun Q k2 => ?_) fun R q => q
        walk_at "w"
        exact k2 _ _ (by assumption) (by assumption) (by assumption)
      walk_at "w"
      refine fin D1 D2 sg1 sg2 H2 (s1'.trans s2) hg1 hg2 (s2 _ _ hD1q e1) e2 _ fun x H5 k => ?_
      walk_at "w"
      exact k
    · walk_at "w"
      refine ⟨by decide, by decide, fun D1 hD1 => ?_⟩
      obtain ⟨hD1q, hD1n⟩ := fresh_of hD1
      refine lc_zeros hD1 (fun H1 sg1 s1 hg1 e1 => ?_) fun i H' R k => ?_
      case refine_2 =>
        refine Z.w_gname (σ' := [some (.ref q), some (.ref a), some (.int m), none, none, some (.int (0 + i)), none, none, none, none]) rfl ?_
        exact k _ rfl (fun Q q => q) fun R q => q
      walk_at "w"
      refine ⟨by decide, by decide, fun D2 hD2 => ?_⟩
      have hD21 : D2 ≠ D1 := Ne.symm (ne_of_none e1 hD2)
      have hD2q : D2 ≠ q := Ne.symm (ne_of_none (s1 _ _ upd_same) hD2)
      have hD2n : H D2 = none := by
        have := s1.free hD2
        rw [upd_ne hD2q] at this
        exact this
      refine lc_zeros hD2 (fun H2 sg2 s2 hg2 e2 => ?_) fun i H' R k => ?_
      case refine_2 =>
        refine Z.w_gname (σ' := [some (.ref q), some (.ref a), some (.int m), some (.ref D1), none, some (.int (0 + i)), none, none, none, none]) rfl ?_
        exact k _ rfl (fun Q q => q) fun R q => q
      have qq : H2 q = some o1 := s2 _ _ (s1 _ _ upd_same)
      have sm2 : SX q H H2 := SX.of ((SX.refl H).at (o := o1)) (s1.trans s2)
      have e1' := s2 _ _ e1
      walk_at "w"
      rename_i al o2 al0 al1 hp2
      have hD12 := Ne.symm hD21
      have hqD1 := Ne.symm hD1q
      have hqD2 := Ne.symm hD2q
      refine ⟨by omega, by omega, ?_⟩
      refine for_range (lo := 0) (n := _) (fun i σ H' => ∃ (x5 x7 x8 : Option V), σ = [some (.ref q), some (.ref a), some (.int m), some (.ref D1), some (.ref D2), x5, some (.bl (decide (al = 0))), x7, x8, none] ∧ TwoI q D1 D2 H H') ?_ ?_ ?_
      · exact ⟨_, _, _, rfl, sm2.at, ⟨_, upd_same, hp2⟩, ⟨_, hg1, by rw [upd_ne hD1q]; exact e1'⟩, ⟨_, hg2, by rw [upd_ne hD2q]; exact e2⟩⟩
      · rintro i σ H' hi ⟨x5, x7, x8, rfl, sm, ⟨o3, hq3, hp3⟩, ⟨sg3, hg3, e3⟩, ⟨sg4, hg4, e4⟩⟩
        have hi6 : i < 6 := hi
        repeat' first | walk_at "w1" | walk_at "wi"
        all_goals (
          refine' ⟨_, _, _, rfl, ?sx, ⟨_, ?q1, ?q2⟩, ⟨_, ?d1, ?d2⟩, ⟨_, ?d3, ?d4⟩⟩
          case q1 => walk_at "hp"
          case q2 => assumption
          case d2 => walk_at "hp"
          case d1 => assumption
          case d4 => walk_at "hp"
          case d3 => assumption
          case sx => (repeat' first | exact sm | refine SX.at ?_ | refine SX.own ?_ hD1n | refine SX.own ?_ hD2n))
      · rintro σ H' ⟨x5, x7, x8, rfl, sm, ⟨o3, hq3, hp3⟩, ⟨sg3, hg3, e3⟩, ⟨sg4, hg4, e4⟩⟩
        walk_at "w"
        rename_i at0 o4 a0 a1 hp4
        refine ⟨by walk_at "sz", by walk_at "sz", ?_⟩
        refine for_range (lo := 0) (n := _) (fun i σ H' => ∃ (x5 x7 x8 : Option V) (at1 : Int), σ = [some (.ref q), some (.ref a), some (.int m), some (.ref D1), some (.ref D2), x5, some (.bl (decide (al = 0))), x7, x8, some (.int at1)] ∧ 0 ≤ at1 ∧ at1 < 6 ∧ TwoI q D1 D2 H H') ?_ ?_ ?_
        · exact ⟨_, _, _, _, rfl, a0, a1, sm.at, ⟨_, upd_same, hp4⟩, ⟨_, hg3, by rw [upd_ne hD1q]; exact e3⟩, ⟨_, hg4, by rw [upd_ne hD2q]; exact e4⟩⟩
        · rintro i σ H3 hi ⟨y5, y7, y8, at1, rfl, b0, b1, sm5, ⟨o5, hq5, hp5⟩, ⟨sg5, hg5, e5⟩, ⟨sg6, hg6, e6⟩⟩
          walk_at "w"
          all_goals (
            refine' ⟨_, _, _, _, rfl, ?b0, ?b1, ?sx, ⟨_, ?q1, ?q2⟩, ⟨_, ?d1, ?d2⟩, ⟨_, ?d3, ?d4⟩⟩
            case b0 => exact Int.emod_nonneg _ (by omega)
            case b1 => exact Int.emod_lt_of_pos _ (by omega)
            case q1 => walk_at "hp"
            case q2 => assumption
            case d2 => walk_at "hp"
            case d1 => assumption
            case d4 => walk_at "hp"
            case d3 => assumption
            case sx => (repeat' first | exact sm5 | refine SX.at ?_ | refine SX.own ?_ hD1n | refine SX.own ?_ hD2n))
        · rintro σ H3 ⟨y5, y7, y8, at1, rfl, b0, b1, sm5, ⟨o5, hq5, hp5⟩, ⟨sg5, hg5, e5⟩, ⟨sg6, hg6, e6⟩⟩
          walk_at "w"
          walk_at "wi"
          · walk_at "w"
            walk_at "wi"
            · walk_at "w"
              refine ⟨by decide, by decide, fun D3 hD3 => ?_⟩
              refine lc_zeros hD3 (fun H7 sg7 s7 hg7 e7 => ?_) fun i H' R k => ?_
              case refine_2 =>
                refine Z.w_gname (σ' := [some (.ref q), some (.ref a), some (.int m), some (.ref D1), some (.ref D2), some (.int (0 + i)), some (.bl (decide (al = 0))), y7, y8, some (.int at1)]) rfl ?_
                exact k _ rfl (fun Q q => q) fun R q => q
              walk_at "w"
              refine fin D3 D2 sg7 sg6 H7 (SX.of sm5.at s7) hg7 hg6 e7 (s7 _ _ (by rw [upd_ne hD2q]; exact e6)) _ fun x H5 k => ?_
              walk_at "w"
              exact k
            · walk_at "w"
              refine ⟨by decide, by decide, fun D3 hD3 => ?_⟩
              refine lc_zeros hD3 (fun H7 sg7 s7 hg7 e7 => ?_) fun i H' R k => ?_
              case refine_2 =>
                refine Z.w_gname (σ' := [some (.ref q), some (.ref a), some (.int m), some (.ref D1), some (.ref D2), some (.int (0 + i)), some (.bl (decide (al = 0))), y7, y8, some (.int at1)]) rfl ?_
                exact k _ rfl (fun Q q => q) fun R q => q
              walk_at "w"
              refine fin D1 D3 sg5 sg7 H7 (SX.of sm5.at s7) hg5 hg7 (s7 _ _ (by rw [upd_ne hD1q]; exact e5)) e7 _ fun x H5 k => ?_
              walk_at "w"
              exact k
          · walk_at "w"
            refine fin D1 D2 sg5 sg6 H3 sm5 hg5 hg6 e5 e6 _ fun x H5 k => ?_
            walk_at "w"
            exact k
theorem use_two {q a : Addr} {o : HO} {ns : List Int} {H : Hp} {Q : VK} {E : XK} (h1 : a ≠ q) (ho : H q = some o) (hp : IsPool o) (ha : H a = some (.lst (ns.map V.int))) (hn : NodesOk ns)
    (h : ∀ (t p1 p2 : Addr) (c d : List Int) H', SX q H H' → H' t = some (.tup [.ref p1, .ref p2]) → H' p1 = some (.tup (c.map V.int)) → H' p2 = some (.tup (d.map V.int)) → COk ns c → COk ns d → Q (.ref t) H') : spTwo [.ref q, .ref a] H Q E := ⟨q, a, o, ns, rfl, h1, ho, hp, ha, hn, h⟩
end
end L

namespace M
open PySem PySem.Spec PyProof.Rows L2
/-- is a literal true in a row of the nodes -/
def tv (ns : List Int) (row : List Bool) (x : Int) : Bool := ((row[ns.idxOf (x.natAbs : Int)]?).getD false) == decide (x > 0)
theorem tv_neg {ns : List Int} {row : List Bool} {x : Int} (h : x ≠ 0) : tv ns row (-x) = !tv ns row x := by
  unfold tv
  rw [Int.natAbs_neg]
  generalize (row[ns.idxOf (x.natAbs : Int)]?).getD false = b
  by_cases h1 : x > 0
  · have h2 : ¬ (-x > 0) := by omega
    rw [decide_eq_true h1, decide_eq_false h2]
    cases b <;> rfl
  · have h2 : -x > 0 := by omega
    rw [decide_eq_false h1, decide_eq_true h2]
    cases b <;> rfl
theorem idx_spec : ∀ (ns : List Int) (x : Int), x ∈ ns → ns[ns.idxOf x]? = some x ∧ ∀ m z, m < ns.idxOf x → ns[m]? = some z → z ≠ x
  | [], x, h => absurd h (by simp)
  | n :: r, x, h => by
    rw [List.idxOf_cons]
    by_cases e : n = x
    · subst e
      simp
    · have hb : (n == x) = false := by simp [e]
      rw [hb]
      have hm : x ∈ r := by
        rcases List.mem_cons.mp h with a | a
        · exact absurd a.symm e
        · exact a
      obtain ⟨h1, h2⟩ := idx_spec r x hm
      refine ⟨by simpa using h1, fun m z hm2 hz => ?_⟩
      cases m with
      | zero =>
        have : n = z := by simpa using hz
        rw [← this]
        exact e
      | succ m => exact h2 m z (by simpa using hm2) (by simpa using hz)
end M
namespace L
open PySem PySem.Spec PyProof.Rows L2 Z M
section
variable {P : Program} {w : World} {K : PySem.W.Frag} {mg : Str → Option Value} {base : Heap} {σ : L2.St} {H : Hp} {Q : VK}
theorem w_indexI {a : Addr} {ns : List Int} {x : Int} (hs : SqL K H a (ns.map V.int)) (hx : x ∈ ns) (q : Q (.int (ns.idxOf x : Nat)) H) : rIndex K (.ref a) [.int x] H Q := by
  obtain ⟨h1, h2⟩ := idx_spec ns x hx
  refine ⟨a, _, _, ns.idxOf x, .int x, rfl, rfl, hs, rfl, flat_ints ns, by rw [List.getElem?_map, h1]; rfl, by simp [eqV], fun m z' hm hz => ?_, q⟩
  rw [List.getElem?_map] at hz
  cases e : ns[m]? with
  | none => rw [e] at hz; cases hz
  | some y =>
    rw [e] at hz
    obtain rfl : V.int y = z' := Option.some.inj hz
    simp [eqV, h2 m y hm e]
def spHolds : Sp := fun vs H Q _ => ∃ (p a b : Addr) (c ns : List Int) (row : List Bool), vs = [.ref p, .ref a, .ref b] ∧ H p = some (.tup (c.map V.int)) ∧ H a = some (.lst (ns.map V.int)) ∧ H b = some (.lst (row.map V.bl)) ∧ NodesOk ns ∧ row.length = 6 ∧ (∀ x ∈ c, x ≠ 0 ∧ (x.natAbs : Int) ∈ ns) ∧ Q (.bl (c.any (tv ns row))) H
theorem ok_holds (T : Txt K mg) : FnOk P w K mg base CX0 1 T.f_holds T.fd_holds ["_law_clause", "_law_nodes", "_law_row"] spHolds := by
  refine T.F_holds.ok sc_holds (fun vs H Q E h => ?_) (fun cdv A outer s H vs Q E hr h => ?_)
  · obtain ⟨p, a, b, c, ns, row, rfl, _⟩ := h
    rfl
  · obtain ⟨p, a, b, c, ns, row, rfl, hp, ha, hb, hns, hrl, hc, h⟩ := h
    refine ⟨_, (pss_cons (ps_for PassesOwn.never rfl (pi_tup (pv 0)) (pg_name (i := 3) sc_holds.nd rfl (.inl rfl)) (pss_one (ps_if (pt_cmpR op_eq (pe_ix ix_list (pv 2) (pe_bm PySem.F.plainAttrs_list PySem.F.slot_list_index PySem.F.type_list_index mt_index (pv 1) (pa_cons (pe_callB call_abs (by rfl) T.m_abs (by decide +kernel) (pa_cons (pv 3) pa_nil)) pa_nil)) (fun _ _ => rfl)) (pe_cmpR op_gt (pv 3) pe_int (nomark _)) (nomark _)) (pss_one (ps_ret pe_bl)) pss_nil)))
 (pss_one (ps_ret pe_bl))), ?_⟩
    refine Z.w_start (σ' := [some (.ref p), some (.ref a), some (.ref b), none]) rfl ?_
    walk_at "w"
    refine for_tup (xs := c.map V.int) (fun i σ H' => ∃ (x3 : Option V), σ = [some (.ref p), some (.ref a), some (.ref b), x3] ∧ H' = H ∧ (c.take i).any (tv ns row) = false ∧ i ≤ c.length) ?_ ?_ ?_ ?_
    · exact ⟨_, rfl, rfl, rfl, Nat.zero_le _⟩
    · rintro i σ H' _ ⟨x3, rfl, rfl, _⟩
      exact .inl (.inl hp)
    · rintro i x σ H' hx ⟨x3, rfl, rfl, hf, hi⟩
      rw [List.getElem?_map] at hx
      cases hxi : c[i]? with
      | none => rw [hxi] at hx; cases hx
      | some l =>
        rw [hxi] at hx
        obtain rfl : V.int l = x := Option.some.inj hx
        have hlm : l ∈ c := List.mem_of_getElem? hxi
        have hil : i < c.length := (List.getElem?_eq_some_iff.mp hxi).1
        have ht : c.take (i + 1) = c.take i ++ [l] := by rw [List.take_add_one, hxi]; rfl
        obtain ⟨l0, lm⟩ := hc l hlm
        walk_at "w"
        have ex : (if l < 0 then -l else l) = (l.natAbs : Int) := by split <;> omega
        have hix : ns.idxOf (l.natAbs : Int) < row.length := by
          have := (idx_spec ns _ lm).1
          have := (List.getElem?_eq_some_iff.mp this).1
          have := hns.1
          omega
        have hrow : row[ns.idxOf (l.natAbs : Int)]? = some (row[ns.idxOf (l.natAbs : Int)]) := List.getElem?_eq_getElem hix
        have htv : tv ns row l = (row[ns.idxOf (l.natAbs : Int)] == decide (l > 0)) := by
          unfold tv
          rw [hrow]
          rfl
        rw [ex]
        refine w_indexI (.inl (.inl ha)) lm ?_
        refine w_ixL (v := .bl (row[ns.idxOf (l.natAbs : Int)])) (.inl (.inl hb)) (atI_nat (by rw [List.getElem?_map, hrow]; rfl)) ?_
        walk_at "w"
        refine w_rEq rfl ?_
        walk_at "w"
        walk_at "wi"
        · rename_i hq
          walk_at "w"
          have : c.any (tv ns row) = true := List.any_eq_true.mpr ⟨l, hlm, by rw [htv]; simpa using hq⟩
          rw [this] at h
          exact h
        · rename_i hq
          walk_at "w"
          refine ⟨?_, hil⟩
          rw [ht, List.any_append, hf]
          simp only [List.any_cons, List.any_nil, Bool.or_false, Bool.false_or]
          rw [htv]
          simpa using hq
    · rintro σ H' ⟨x3, rfl, rfl, hf, hi⟩
      rw [List.length_map, List.take_length] at hf
      walk_at "w"
      rw [hf] at h
      exact h
theorem use_holds {p a b : Addr} {c ns : List Int} {row : List Bool} {H : Hp} {Q : VK} {E : XK} (h1 : H p = some (.tup (c.map V.int))) (h2 : H a = some (.lst (ns.map V.int))) (h3 : H b = some (.lst (row.map V.bl))) (h4 : NodesOk ns) (h5 : row.length = 6) (h6 : ∀ x ∈ c, x ≠ 0 ∧ (x.natAbs : Int) ∈ ns) (q : Q (.bl (c.any (tv ns row))) H) : spHolds [.ref p, .ref a, .ref b] H Q E := ⟨p, a, b, c, ns, row, rfl, h1, h2, h3, h4, h5, h6, q⟩
end
end L

namespace L
open PySem PySem.Spec PyProof.Rows L2 Z M
section
variable {P : Program} {w : World} {K : PySem.W.Frag} {mg : Str → Option Value} {base : Heap} {σ : L2.St} {H : Hp} {Q : VK}
theorem use_alikeL {a b : Addr} {ys : List Int} {H : Hp} {Q : VK} {E : XK} (h1 : H a = some (.lst (ys.map V.int))) (h2 : H b = some (.lst (ys.map V.int))) (h3 : ys.length ≤ 1000) (q : Q (.bl true) H) : spAlikeL [.ref a, .ref b] H Q E := ⟨a, b, ys, rfl, h1, h2, h3, q⟩
def spListTold : Sp := fun vs H Q _ => ∃ (a : Addr) (ls : List Int), vs = [.ref a] ∧ H a = some (.lst (ls.map V.int)) ∧ ls.length ≤ 20 ∧ (∀ l ∈ ls, l ≠ 0) ∧ ∀ H', Same H H' → Q (.bl true) H'
theorem ok_list_told (T : Txt K mg) : FnOk P w K mg base CX0 4 T.f_list_told T.fd_list_told ["_law_literals_here"] spListTold := by
  have G_due := ok_due (P := P) (w := w) (base := base) T
  have G_clause_of := ok_clause_l (P := P) (w := w) (base := base) T
  have G_clause_t := ok_clause_t (P := P) (w := w) (base := base) T
  have G_alike := ok_alikeR (P := P) (w := w) (base := base) T
  have G_alikeL := ok_alikeL (P := P) (w := w) (base := base) T
  refine T.F_list_told.ok sc_list_told (fun vs H Q E h => ?_) (fun cdv A outer s H vs Q E hr h => ?_)
  · obtain ⟨a, ls, rfl, _⟩ := h
    rfl
  · obtain ⟨a, ls, rfl, ha, hl, h0, h⟩ := h
    refine ⟨_, (pss_cons (ps_set (i := 1) sc_list_told.nd rfl (.inl rfl) (pe_call G_due (hr.mono (by decide)) (by rfl) T.g_due T.F_due.kp T.b_due .nil pass0 (pa_cons (pv 0) pa_nil)))
 (pss_cons (ps_set (i := 2) sc_list_told.nd rfl (.inl rfl) (pe_callTy call_list_of (by rfl) T.m_list (by decide +kernel) (pa_cons (pv 0) pa_nil)))
 (pss_cons (ps_if (PW.pt (pw_or (pt_not (pt_val (pe_call G_alike (hr.mono (by decide)) (by rfl) T.g_alike T.F_alike.kp T.b_alike .nil pass0 (pa_cons (pe_call G_clause_of (hr.mono (by decide)) (by rfl) T.g_clause_of T.F_clause_of.kp T.b_clause_of .nil pass0 (pa_cons (pv 2) pa_nil)) (pa_cons (pv 1) pa_nil))))) (pw_or1 (pt_not (pt_val (pe_call G_alikeL (hr.mono (by decide)) (by rfl) T.g_alike T.F_alike.kp T.b_alike .nil pass0 (pa_cons (pv 2) (pa_cons (pv 0) pa_nil)))))))) (pss_one (ps_ret pe_bl)) pss_nil)
 (pss_cons (ps_expr (pe_bm0 PySem.F.plainAttrs_list PySem.F.slot_list_reverse PySem.F.type_list_reverse mt_reverse (pv 2)))
 (pss_cons (ps_if (PW.pt (pw_or (pt_not (pt_val (pe_call G_alike (hr.mono (by decide)) (by rfl) T.g_alike T.F_alike.kp T.b_alike .nil pass0 (pa_cons (pe_call G_clause_of (hr.mono (by decide)) (by rfl) T.g_clause_of T.F_clause_of.kp T.b_clause_of .nil pass0 (pa_cons (pv 2) pa_nil)) (pa_cons (pv 1) pa_nil))))) (pw_or1 (pt_not (pt_val (pe_call G_alike (hr.mono (by decide)) (by rfl) T.g_alike T.F_alike.kp T.b_alike .nil pass0 (pa_cons (pe_call G_clause_t (hr.mono (by decide)) (by rfl) T.g_clause_of T.F_clause_of.kp T.b_clause_of .nil pass0 (pa_cons (pe_callTy call_tuple_of (by rfl) T.m_tuple (by decide +kernel) (pa_cons (pv 0) pa_nil)) pa_nil)) (pa_cons (pv 1) pa_nil)))))))) (pss_one (ps_ret pe_bl)) pss_nil)
 (pss_cons (ps_expr (pe_bm PySem.F.plainAttrs_list PySem.F.slot_list_append PySem.F.type_list_append mt_append (pv 2) (pa_cons pe_int pa_nil)))
 (pss_one (ps_ret (pe_and (pe_call G_alike (hr.mono (by decide)) (by rfl) T.g_alike T.F_alike.kp T.b_alike .nil pass0 (pa_cons (pe_call G_clause_of (hr.mono (by decide)) (by rfl) T.g_clause_of T.F_clause_of.kp T.b_clause_of .nil pass0 (pa_cons (pv 2) pa_nil)) (pa_cons (pe_call G_due (hr.mono (by decide)) (by rfl) T.g_due T.F_due.kp T.b_due .nil pass0 (pa_cons (pv 2) pa_nil)) pa_nil))) (pe_one (pe_call G_alike (hr.mono (by decide)) (by rfl) T.g_alike T.F_alike.kp T.b_alike .nil pass0 (pa_cons (pe_call G_clause_of (hr.mono (by decide)) (by rfl) T.g_clause_of T.F_clause_of.kp T.b_clause_of .nil pass0 (pa_cons (pe_callTy call_list_of (by rfl) T.m_list (by decide +kernel) (pa_cons (pv 0) pa_nil)) pa_nil)) (pa_cons (pv 1) pa_nil))))))))))))), ?_⟩
    refine Z.w_start (σ' := [some (.ref a), none, none]) rfl ?_
    walk_at "w"
    refine use_due (.inl (.inl ha)) (by omega) h0 fun due H1 s1 r1 => ?_
    have ha1 := s1 _ _ ha
    walk_at "w"
    intro d hd
    have hd0 : H d = none := s1.free hd
    walk_at "w"
    refine use_clause_l (.inl (.inl upd_same)) (by omega) h0 fun v2 H2 s2 r2 => ?_
    have ha2 := s2 _ _ (upd_of hd ha1)
    have hd2 := s2 _ _ (upd_same (H := H1) (a := d) (o := .lst (ls.map V.int)))
    have k2 : Same H1 H2 := (same_of (Same.refl _) hd).trans s2
    walk_at "w"
    refine use_alikeR r2 (r1.mono k2) (fun _ => Iff.rfl) (by omega) ?_
    walk_at "w"
    refine use_alikeL hd2 ha2 (by omega) ?_
    walk_at "w"
    rw [← List.map_reverse]
    have k3 : Same H1 (upd H2 d (.lst (ls.reverse.map V.int))) := same_mut k2 hd
    refine use_clause_l (.inl (.inl upd_same)) (by rw [List.length_reverse]; omega) (fun l hl => h0 l (List.mem_reverse.mp hl)) fun v3 H3 s3 r3 => ?_
    have k4 := k3.trans s3
    walk_at "w"
    refine use_alikeR r3 (r1.mono k4) (fun _ => List.mem_reverse) (by omega) ?_
    walk_at "w"
    refine ⟨a, _, rfl, .inl ⟨.inl (.inl (k4 _ _ ha1)), fun t ht => ?_⟩⟩
    walk_at "w"
    refine use_clause_t (.inl (.inl upd_same)) (by omega) h0 fun v4 H4 s4 r4 => ?_
    have k5 : Same H1 H4 := (same_of k4 ht).trans s4
    walk_at "w"
    refine use_alikeR r4 (r1.mono k5) (fun _ => Iff.rfl) (by omega) ?_
    have hd4 : H4 d = some (.lst (ls.reverse.map V.int)) := ((same_of (Same.refl _) ht).trans s4) _ _ (s3 _ _ upd_same)
    walk_at "w"
    refine w_app hd4 (by rw [List.length_map, List.length_reverse]; omega) ?_
    have e7 : ls.reverse.map V.int ++ [V.int 7] = (ls.reverse ++ [7]).map V.int := by rw [List.map_append]; rfl
    rw [e7]
    have l7 : (ls.reverse ++ [7]).length ≤ 30 := by rw [List.length_append, List.length_reverse, List.length_singleton]; omega
    have n7 : ∀ l ∈ ls.reverse ++ [(7 : Int)], l ≠ 0 := by
      intro l hl
      rcases List.mem_append.mp hl with h | h
      · exact h0 l (List.mem_reverse.mp h)
      · rw [List.mem_singleton.mp h]
        decide
    have k6 : Same H1 (upd H4 d (.lst ((ls.reverse ++ [7]).map V.int))) := same_mut k5 hd
    walk_at "w"
    refine use_clause_l (.inl (.inl upd_same)) (by omega) n7 fun v5 H5 s5 r5 => ?_
    walk_at "w"
    refine use_due (.inl (.inl (s5 _ _ upd_same))) (by omega) n7 fun v6 H6 s6 r6 => ?_
    walk_at "w"
    refine use_alikeR (r5.mono s6) r6 (fun _ => Iff.rfl) (by omega) ?_
    have k7 := (k6.trans s5).trans s6
    walk_at "w"
    refine ⟨a, _, rfl, .inl (.inl (.inl (k7 _ _ ha1))), fun t2 ht2 => ?_⟩
    walk_at "w"
    refine use_clause_l (.inl (.inl upd_same)) (by omega) h0 fun v7 H7 s7 r7 => ?_
    have k8 : Same H1 H7 := (same_of k7 ht2).trans s7
    walk_at "w"
    refine use_alikeR r7 (r1.mono k8) (fun _ => Iff.rfl) (by omega) ?_
    exact h _ (s1.trans k8)
theorem use_list_told {a : Addr} {ls : List Int} {H : Hp} {Q : VK} {E : XK} (h1 : H a = some (.lst (ls.map V.int))) (h2 : ls.length ≤ 20) (h3 : ∀ l ∈ ls, l ≠ 0) (h : ∀ H', Same H H' → Q (.bl true) H') : spListTold [.ref a] H Q E := ⟨a, ls, rfl, h1, h2, h3, h⟩
end
end L

namespace L
open PySem PySem.Spec PyProof.Rows L2 Z M
section
variable {P : Program} {w : World} {K : PySem.W.Frag} {mg : Str → Option Value} {base : Heap} {σ : L2.St} {H : Hp} {Q : VK}
/-- resolution is sound -/
theorem sound {ns c o ys : List Int} {l : Int} {row : List Bool} (h0 : ∀ x ∈ c, x ≠ 0) (hc : ClOf (rest c l o) ys) (h1 : c.any (tv ns row) = true) (h2 : o.any (tv ns row) = true) : ys.any (tv ns row) = true := by
  obtain ⟨x, hx, tx⟩ := List.any_eq_true.mp h1
  obtain ⟨y, hy, ty⟩ := List.any_eq_true.mp h2
  refine List.any_eq_true.mpr ?_
  by_cases e1 : x = l
  · by_cases e2 : y = -l
    · subst e1
      subst e2
      rw [tv_neg (h0 _ hx), tx] at ty
      cases ty
    · refine ⟨y, (hc.2 y).mpr ?_, ty⟩
      unfold rest
      exact List.mem_append.mpr (.inr (List.mem_filter.mpr ⟨hy, by simp [e2]⟩))
  · refine ⟨x, (hc.2 x).mpr ?_, tx⟩
    unfold rest
    exact List.mem_append.mpr (.inl (List.mem_filter.mpr ⟨hx, by simp [e1]⟩))
theorem rest_ok {ns c o : List Int} {l : Int} (h1 : COk ns c) (h2 : COk ns o) : (rest c l o).length ≤ 12 ∧ ∀ x ∈ rest c l o, x ≠ 0 ∧ (x.natAbs : Int) ∈ ns := by
  unfold rest
  refine ⟨?_, fun x hx => ?_⟩
  · rw [List.length_append]
    have a := List.length_filter_le (fun x => !decide (x = l)) c
    have b := List.length_filter_le (fun x => !decide (x = -l)) o
    have := h1.1
    have := h2.1
    omega
  · rcases List.mem_append.mp hx with h | h
    · exact h1.2 x (List.mem_filter.mp h).1
    · exact h2.2 x (List.mem_filter.mp h).1
theorem none_res (H : Hp) : Res [1, -1] .non H := .inl ⟨⟨1, by simp, by simp⟩, rfl⟩
theorem lc_bools {D : Addr} {g : TG} {tt : TT} {te : TE} {ivs : List Nat} {σ : L2.St} {H : Hp} {Qd : Hp → Prop} (hD : H D = none)
    (hd : ∀ H' (row : List Bool), Same H H' → row.length = 6 → H' D = some (.lst (row.map V.bl)) → Qd H')
    (hs : ∀ (i : Nat) (H' : Hp) (R : L2.St → Hp → Prop), (∀ σ2, wipe σ2 ivs = wipe σ ivs → (∀ (Q : VK), (∀ b, Q (.bl b) H') → te σ2 H' Q) → (∀ (R : Bool → Hp → Prop), R true H' → tt σ2 H' R) → R σ2 H') → g (.int (0 + (i : Int))) (wipe σ ivs) H' R) :
    ∃ W : Nat → Nat → Hp → Prop, (∃ m, W 0 m (upd H D (.lst []))) ∧ ∀ i m H, W i m H →
      ((Itr 0 (Int.toNat 6)).stop i H ∧ Qd H) ∨ ((Itr 0 (Int.toNat 6)).go i H ∧ ∃ Nx : Hp → Prop, (∀ H', Nx H' → ∃ m', m' < m ∧ W (i + 1) m' H') ∧ ∀ x H', (Itr 0 (Int.toNat 6)).yld i H x H' → g x (wipe σ ivs) H' fun σ2 H2 => wipe σ2 ivs = wipe σ ivs ∧ tt σ2 H2 fun b H3 =>
        if b = true then te σ2 H3 fun y H4 => ∃ acc, H4 D = some (.lst acc) ∧ acc.length < sizeLine ∧ Nx (upd H4 D (.lst (acc ++ [y]))) else Nx H3) := by
  refine lc_range (lo := 0) (n := 6) (fun i H' => Same H H' ∧ ∃ row : List Bool, row.length = i ∧ H' D = some (.lst (row.map V.bl))) ?_ ?_ ?_
  · exact ⟨same_of (Same.refl _) hD, [], rfl, upd_same⟩
  · rintro i H' hi ⟨sm, row, hl, hc⟩
    refine hs i H' _ fun σ2 e1 e3 e4 => ⟨e1, e4 _ ?_⟩
    rw [if_pos rfl]
    exact e3 _ fun b => ⟨_, hc, by rw [List.length_map, hl]; exact Nat.lt_trans hi (by decide), same_mut sm hD, row ++ [b], by rw [List.length_append, hl]; rfl, by rw [upd_same, List.map_append]; rfl⟩
  · rintro H' ⟨sm, row, hl, hc⟩
    exact hd H' row sm hl hc
def spRest : Sp := fun vs H Q _ => ∃ (a b d : Addr) (ns c o : List Int) (l : Int), vs = [.ref a, .ref b, .int l, .ref d] ∧ H a = some (.lst (ns.map V.int)) ∧ H b = some (.tup (c.map V.int)) ∧ H d = some (.tup (o.map V.int)) ∧ NodesOk ns ∧ COk ns c ∧ COk ns o ∧ ∀ H', Same H H' → Q (.bl true) H'
theorem ok_rest (T : Txt K mg) : FnOk P w K mg base CX0 4 T.f_rest_told T.fd_rest_told ["_law_nodes", "_law_clause", "_law_literal", "_law_other"] spRest := by
  have G_due := ok_due (P := P) (w := w) (base := base) T
  have G_resolve := ok_resolve (P := P) (w := w) (base := base) T
  have G_alike := ok_alikeR (P := P) (w := w) (base := base) T
  have G_holds := ok_holds (P := P) (w := w) (base := base) T
  refine T.F_rest_told.ok sc_rest_told (fun vs H Q E h => ?_) (fun cdv A outer s H vs Q E hr h => ?_)
  · obtain ⟨a, b, d, ns, c, o, l, rfl, _⟩ := h
    rfl
  · obtain ⟨a, b, d, ns, c, o, l, rfl, ha, hb, hd, hns, hc, ho, h⟩ := h
    have c6 := hc.1
    have o6 := ho.1
    refine ⟨_, (pss_cons (ps_set (i := 4) sc_rest_told.nd rfl (.inl rfl) pe_non)
 (pss_cons (ps_if (PW.pt (pw_and (pt_cmpR op_in_seq (pv 2) (pv 1) rfl) (pw_and1 (pt_cmpR op_in_seq (pe_op op_sub pe_int (pv 2)) (pv 3) rfl)))) (pss_one (ps_set (i := 4) sc_rest_told.nd rfl (.inl rfl) (pe_call G_due (hr.mono (by decide)) (by rfl) T.g_due T.F_due.kp T.b_due .nil pass0 (pa_cons (pe_op op_cat (pe_lc (own := [("_law_one", 5)]) (g := gName 5) (by rfl) sc_rest_told.nd (pi_tup (pv 1)) (blkOk_by (own := [("_law_one", 5)]) (N := N_rest_told) (sc := defScope s_rest_told) (by decide +kernel)) (fun _ _ _ _ _ => pg_name (i := 5) sc_rest_told.nd rfl (Or.inl rfl)) (fun _ _ _ _ _ => pts_one (pt_cmpR op_ne (pv 5) (pv 2) (nomark _))) (fun _ _ _ _ _ => (pv 5))) (pe_lc (own := [("_law_one", 5)]) (g := gName 5) (by rfl) sc_rest_told.nd (pi_tup (pv 3)) (blkOk_by (own := [("_law_one", 5)]) (N := N_rest_told) (sc := defScope s_rest_told) (by decide +kernel)) (fun _ _ _ _ _ => pg_name (i := 5) sc_rest_told.nd rfl (Or.inl rfl)) (fun _ _ _ _ _ => pts_one (pt_cmpR op_ne (pv 5) (pe_op op_sub pe_int (pv 2)) (nomark _))) (fun _ _ _ _ _ => (pv 5)))) pa_nil)))) pss_nil)
 (pss_cons (ps_set (i := 6) sc_rest_told.nd rfl (.inl rfl) (pe_call G_resolve (hr.mono (by decide)) (by rfl) T.g_resolve T.F_resolve.kp T.b_resolve .nil pass0 (pa_cons (pv 1) (pa_cons (pv 2) (pa_cons (pv 3) pa_nil)))))
 (pss_cons (ps_if (pt_not (pt_val (pe_call G_alike (hr.mono (by decide)) (by rfl) T.g_alike T.F_alike.kp T.b_alike .nil pass0 (pa_cons (pv 6) (pa_cons (pv 4) pa_nil))))) (pss_one (ps_ret pe_bl)) pss_nil)
 (pss_cons (ps_if (pt_cmpR op_isN (pv 4) pe_non (nomark _)) (pss_one (ps_ret pe_bl)) pss_nil)
 (pss_cons (ps_for PassesOwn.never rfl (pi_range1 (by rfl) T.m_range (pa_cons pe_int pa_nil)) (pg_name (i := 7) sc_rest_told.nd rfl (.inr rfl)) (pss_cons (ps_setLc (i := 8) (own := [("_law_j", 9)]) (g := gName 9) (tt := tYes) (by rfl) sc_rest_told.nd rfl rfl (sw_true rfl rfl rfl (by decide +kernel)) (pi_range1 (by rfl) T.m_range (pa_cons pe_int pa_nil)) (blkOk_by (own := [("_law_j", 9)]) (N := N_rest_told) (sc := defScope s_rest_told) (by decide +kernel)) (fun _ _ _ _ _ => pg_name (i := 9) sc_rest_told.nd rfl (Or.inl rfl)) (fun _ _ _ _ _ => pts_nil) (fun _ _ _ _ _ => (pe_cmpR op_eq (pe_op op_and (pe_op op_shr (pv 7) (pv 9)) pe_int) pe_int (nomark _))))
 (pss_one (ps_if (PW.pt (pw_and (pt_val (pe_call G_holds (hr.mono (by decide)) (by rfl) T.g_holds T.F_holds.kp T.b_holds .nil pass0 (pa_cons (pv 1) (pa_cons (pv 0) (pa_cons (pv 8) pa_nil))))) (pw_and (pt_val (pe_call G_holds (hr.mono (by decide)) (by rfl) T.g_holds T.F_holds.kp T.b_holds .nil pass0 (pa_cons (pv 3) (pa_cons (pv 0) (pa_cons (pv 8) pa_nil))))) (pw_and1 (pt_not (pt_val (pe_call G_holds (hr.mono (by decide)) (by rfl) T.g_holds T.F_holds.kp T.b_holds .nil pass0 (pa_cons (pv 6) (pa_cons (pv 0) (pa_cons (pv 8) pa_nil)))))))))) (pss_one (ps_ret pe_bl)) pss_nil))))
 (pss_one (ps_ret pe_bl)))))))), ?_⟩
    refine Z.w_start (σ' := [some (.ref a), some (.ref b), some (.int l), some (.ref d), none, none, none, none, none, none]) rfl ?_
    walk_at "w"
    walk_at "wi"
    · rename_i h1
      walk_at "w"
      walk_at "wi"
      · rename_i h2
        rw [Int.zero_sub] at h2
        walk_at "w"
        refine fun D1 hD1 => lc_keep (l := l) (.inl (.inl hb)) hD1 (by omega) (fun H1 s1 e1 => ?_) fun x H' R k => ?_
        case refine_2 =>
          refine Z.w_gname (σ' := [some (.ref a), some (.ref b), some (.int l), some (.ref d), some .non, some (.int x), none, none, none, none]) rfl ?_
          refine k _ rfl (fun Q q => ⟨_, rfl, q⟩) fun R q => ?_
          walk_at "w"
          exact q
        have hd1 := s1 _ _ hd
        walk_at "w"
        refine fun D2 hD2 => lc_keep (l := 0 - l) (.inl (.inl hd1)) hD2 (by omega) (fun H2 s2 e2 => ?_) fun x H' R k => ?_
        case refine_2 =>
          refine Z.w_gname (σ' := [some (.ref a), some (.ref b), some (.int l), some (.ref d), some .non, some (.int x), none, none, none, none]) rfl ?_
          refine k _ rfl (fun Q q => ⟨_, rfl, q⟩) fun R q => ?_
          walk_at "w"
          exact q
        have e1' := s2 _ _ e1
        have l1 : (c.filter fun x => !decide (x = l)).length ≤ 6 := Nat.le_trans (List.length_filter_le _ _) c6
        have l2 : (o.filter fun x => !decide (x = 0 - l)).length ≤ 6 := Nat.le_trans (List.length_filter_le _ _) o6
        have k2 := s1.trans s2
        walk_at "w"
        rename_i p hp
        have ro := rest_ok (l := l) hc ho
        have er : ((c.filter fun x => !decide (x = l)).map V.int ++ (o.filter fun x => !decide (x = 0 - l)).map V.int) = (rest c l o).map V.int := by
          rw [← List.map_append, Int.zero_sub]
          rfl
        rw [er]
        have k3 := same_of k2 hp (o := .lst ((rest c l o).map V.int))
        refine use_due (.inl (.inl upd_same)) (by omega) (fun x hx => (ro.2 x hx).1) fun v1 H3 s3 r1 => ?_
        have k4 := k3.trans s3
        walk_at "w"
        refine use_resolve (.inl (.inl (k4 _ _ hb))) (.inl (.inl (k4 _ _ hd))) (by omega) (by omega) (fun x hx => (hc.2 x hx).1) (fun x hx => (ho.2 x hx).1) (fun z => absurd z (by simp [h1, h2])) fun _ _ v2 H4 s4 r2 => ?_
        have k5 := k4.trans s4
        have r1' := r1.mono s4
        walk_at "w"
        refine use_alikeR r2 r1' (fun _ => Iff.rfl) (by omega) ?_
        walk_at "w"
        rcases r1' with ⟨cl, rfl⟩ | ⟨ncl, t, ys, rfl, hcl, hyl, ht⟩
        · walk_at "w"
          exact h _ k5
        · rcases r2 with ⟨cl2, _⟩ | ⟨_, t2, ys2, rfl, hcl2, hyl2, ht2⟩
          · exact absurd cl2 ncl
          · walk_at "w"
            refine ⟨by decide, by decide, ?_⟩
            refine for_range (lo := 0) (n := _) (fun i σ H' => ∃ (x5 x7 x8 : Option V), σ = [some (.ref a), some (.ref b), some (.int l), some (.ref d), some (.ref t), x5, some (.ref t2), x7, x8, none] ∧ Same H4 H') ?_ ?_ ?_
            · exact ⟨_, _, _, rfl, Same.refl _⟩
            · rintro i σ H' hi ⟨x5, x7, x8, rfl, sm⟩
              walk_at "w"
              refine ⟨by decide, by decide, fun D hD => ?_⟩
              refine lc_bools hD (fun H5 row s5 hrl e5 => ?_) fun j H' R k => ?_
              case refine_2 =>
                refine Z.w_gname (σ' := [some (.ref a), some (.ref b), some (.int l), some (.ref d), some (.ref t), x5, some (.ref t2), some (.int (0 + (i : Int))), x8, some (.int (0 + (j : Int)))]) rfl ?_
                refine k _ rfl (fun Q k2 => ?_) fun R q => q
                walk_at "w"
                exact k2 _
              have k6 := sm.trans s5
              have k7 := k5.trans k6
              have tok : ∀ x ∈ ys2, x ≠ 0 ∧ (x.natAbs : Int) ∈ ns := fun x hx => ro.2 x ((hcl2.2 x).mp hx)
              walk_at "w"
              refine use_holds (k7 _ _ hb) (k7 _ _ ha) e5 hns hrl hc.2 ?_
              walk_at "w"
              walk_at "wi"
              · rename_i t1
                walk_at "w"
                refine use_holds (k7 _ _ hd) (k7 _ _ ha) e5 hns hrl ho.2 ?_
                walk_at "w"
                walk_at "wi"
                · rename_i t2'
                  walk_at "w"
                  refine use_holds (k6 _ _ ht2) (k7 _ _ ha) e5 hns hrl tok ?_
                  rw [sound (fun x hx => (hc.2 x hx).1) hcl2 t1 t2']
                  walk_at "w"
                  first | exact ⟨_, _, _, rfl, k6⟩ | exact k6
                · walk_at "w"
                  first | exact ⟨_, _, _, rfl, k6⟩ | exact k6
              · walk_at "w"
                first | exact ⟨_, _, _, rfl, k6⟩ | exact k6
            · rintro σ H' ⟨x5, x7, x8, rfl, sm⟩
              walk_at "w"
              exact h _ (k5.trans sm)
      · rename_i h2
        rw [Int.zero_sub] at h2
        walk_at "w"
        refine use_resolve (.inl (.inl hb)) (.inl (.inl hd)) (by omega) (by omega) (fun x hx => (hc.2 x hx).1) (fun x hx => (ho.2 x hx).1) (fun _ => ?_) fun _ h4 => absurd h4 h2
        walk_at "w"
        refine use_alikeR (none_res _) (none_res _) (fun _ => Iff.rfl) (by decide) ?_
        walk_at "w"
        exact h _ (Same.refl _)
    · rename_i h1
      walk_at "w"
      refine use_resolve (.inl (.inl hb)) (.inl (.inl hd)) (by omega) (by omega) (fun x hx => (hc.2 x hx).1) (fun x hx => (ho.2 x hx).1) (fun _ => ?_) fun h4 _ => absurd h4 h1
      walk_at "w"
      refine use_alikeR (none_res _) (none_res _) (fun _ => Iff.rfl) (by decide) ?_
      walk_at "w"
      exact h _ (Same.refl _)
theorem use_rest {a b d : Addr} {ns c o : List Int} {l : Int} {H : Hp} {Q : VK} {E : XK} (h1 : H a = some (.lst (ns.map V.int))) (h2 : H b = some (.tup (c.map V.int))) (h3 : H d = some (.tup (o.map V.int))) (h4 : NodesOk ns) (h5 : COk ns c) (h6 : COk ns o) (h : ∀ H', Same H H' → Q (.bl true) H') : spRest [.ref a, .ref b, .int l, .ref d] H Q E := ⟨a, b, d, ns, c, o, l, rfl, h1, h2, h3, h4, h5, h6, h⟩
end
end L

namespace L
open PySem PySem.Spec PyProof.Rows L2 Z M
section
variable {P : Program} {w : World} {K : PySem.W.Frag} {mg : Str → Option Value} {base : Heap}
def spLaw (K : PySem.W.Frag) : Sp := fun vs H Q _ => ∃ (a : Addr) (ns : List Int), vs = [.ref a] ∧ SqL K H a (ns.map V.int) ∧ ns.length ≤ 63 ∧ ∀ H', Q (.bl true) H'
theorem ok_law (T : Txt K mg) : FnOk P w K mg base CX0 5 T.f_law T.fd_law ["_law_script"] (spLaw K) := by
  have G_pool := ok_pool (P := P) (w := w) (base := base) T
  have G_chosen := ok_chosen (P := P) (w := w) (base := base) T
  have G_literals := ok_literals (P := P) (w := w) (base := base) T
  have G_two := ok_two (P := P) (w := w) (base := base) T
  have G_list_told := ok_list_told (P := P) (w := w) (base := base) T
  have G_rest_told := ok_rest (P := P) (w := w) (base := base) T
  refine T.F_law.ok sc_law (fun vs H Q E h => ?_) (fun cdv A outer s H vs Q E hr h => ?_)
  · obtain ⟨a, ns, rfl, _⟩ := h
    rfl
  · obtain ⟨a, ns, rfl, hS, hl, h⟩ := h
    refine ⟨_, (pss_cons (ps_for PassesOwn.never rfl (pi_range1 (by rfl) T.m_range (pa_cons pe_int pa_nil)) (pg_name (i := 1) sc_law.nd rfl (.inl rfl)) (pss_cons (ps_set (i := 2) sc_law.nd rfl (.inl rfl) (pe_call G_chosen (hr.mono (by decide)) (by rfl) T.g_chosen T.F_chosen.kp T.b_chosen .nil pass0 (pa_cons (pe_call G_pool (hr.mono (by decide)) (by rfl) T.g_pool T.F_pool.kp T.b_pool .nil pass0 (pa_cons (pv 0) (pa_cons (pe_op op_mul pe_int (pv 1)) pa_nil))) pa_nil)))
 (pss_cons (ps_set (i := 3) sc_law.nd rfl (.inl rfl) (pe_call G_literals (hr.mono (by decide)) (by rfl) T.g_literals T.F_literals.kp T.b_literals .nil pass0 (pa_cons (pe_call G_pool (hr.mono (by decide)) (by rfl) T.g_pool T.F_pool.kp T.b_pool .nil pass0 (pa_cons (pv 0) (pa_cons (pe_op op_add (pe_op op_mul pe_int (pv 1)) pe_int) pa_nil))) (pa_cons (pv 2) pa_nil))))
 (pss_cons (ps_if (pt_not (pt_val (pe_call G_list_told (hr.mono (by decide)) (by rfl) T.g_list_told T.F_list_told.kp T.b_list_told .nil pass0 (pa_cons (pv 3) pa_nil)))) (pss_one (ps_ret pe_bl)) pss_nil)
 (pss_cons (ps_asg (pe_call G_two (hr.mono (by decide)) (by rfl) T.g_two T.F_two.kp T.b_two .nil pass0 (pa_cons (pe_call G_pool (hr.mono (by decide)) (by rfl) T.g_pool T.F_pool.kp T.b_pool .nil pass0 (pa_cons (pv 0) (pa_cons (pe_op op_add (pe_op op_mul pe_int (pv 1)) pe_int) pa_nil))) (pa_cons (pv 2) pa_nil))) (pg_tup (by rfl) (pgs_cons (pg_name (i := 5) sc_law.nd rfl (.inl rfl)) (pgs_cons (pg_name (i := 6) sc_law.nd rfl (.inl rfl)) pgs_nil))))
 (pss_one (ps_for PassesOwn.never rfl (pi_list (pe_op op_cat (pv 2) (pe_lst (pa_cons (pe_op op_add (pe_ix ix_list (pv 2) pe_int (fun _ _ => rfl)) pe_int) pa_nil)))) (pg_name (i := 4) sc_law.nd rfl (.inl rfl)) (pss_one (ps_for PassesOwn.never rfl (pi_tup (pe_tup (pa_cons (pv 4) (pa_cons (pe_op op_sub pe_int (pv 4)) pa_nil)))) (pg_name (i := 7) sc_law.nd rfl (.inl rfl)) (pss_cons (ps_if (pt_not (pt_val (pe_call G_rest_told (hr.mono (by decide)) (by rfl) T.g_rest_told T.F_rest_told.kp T.b_rest_told .nil pass0 (pa_cons (pv 2) (pa_cons (pv 5) (pa_cons (pv 7) (pa_cons (pv 6) pa_nil))))))) (pss_one (ps_ret pe_bl)) pss_nil)
 (pss_one (ps_if (pt_not (pt_val (pe_call G_rest_told (hr.mono (by decide)) (by rfl) T.g_rest_told T.F_rest_told.kp T.b_rest_told .nil pass0 (pa_cons (pv 2) (pa_cons (pv 6) (pa_cons (pv 7) (pa_cons (pv 5) pa_nil))))))) (pss_one (ps_ret pe_bl)) pss_nil))))))))))))
 (pss_one (ps_ret pe_bl))), ?_⟩
    refine Z.w_start (σ' := [some (.ref a), none, none, none, none, none, none, none]) rfl ?_
    walk_at "w"
    refine ⟨by decide, by decide, ?_⟩
    refine for_range (lo := 0) (n := _) (fun i σ H' => ∃ (x1 x2 x3 x4 x5 x6 x7 : Option V), σ = [some (.ref a), x1, x2, x3, x4, x5, x6, x7] ∧ Same H H') ?_ ?_ ?_
    · exact ⟨_, _, _, _, _, _, _, rfl, Same.refl _⟩
    · rintro i σ H' hi ⟨x1, x2, x3, x4, x5, x6, x7, rfl, sm⟩
      have i3 : i < 3 := hi
      have hS' := sm.seq hS
      walk_at "w"
      refine use_pool hS' (by omega) (by omega) (by omega) fun q o hq1 hp1 => ?_
      walk_at "w"
      refine use_chosen upd_same hp1 fun A1 ms H1 s1 e1 hms => ?_
      have k1 : Same H' H1 := s1.same hq1
      walk_at "w"
      refine use_pool (k1.seq hS') (by omega) (by omega) (by omega) fun q2 o2 hq2 hp2 => ?_
      walk_at "w"
      have hA2 : A1 ≠ q2 := ne_of_none e1 hq2
      refine use_lits hA2 upd_same hp2 (by rw [upd_ne hA2]; exact e1) hms fun L1 ls H2 s2 e2 hll hl0 => ?_
      have k2 : Same H1 H2 := s2.same hq2
      walk_at "w"
      refine use_list_told e2 hll hl0 fun H3 s3 => ?_
      have k3 := k2.trans s3
      have e3 := k3 _ _ e1
      walk_at "w"
      refine use_pool ((k1.trans k3).seq hS') (by omega) (by omega) (by omega) fun q4 o4 hq4 hp4 => ?_
      walk_at "w"
      have hA4 : A1 ≠ q4 := ne_of_none e3 hq4
      refine use_two hA4 upd_same hp4 (by rw [upd_ne hA4]; exact e3) hms fun t p1 p2 c d H5 s5 f1 f2 f3 g1 g2 => ?_
      have k5 : Same H3 H5 := s5.same hq4
      have e5 := k5 _ _ e3
      have k6 : Same H H5 := sm.trans ((k1.trans k3).trans k5)
      obtain ⟨z, az, zm⟩ := pick (ns := ms) (k := 5) (by omega) (by have := hms.1; omega)
      have hml := hms.1
      walk_at "w"
      rename_i q6 hq6 p6 hp6
      have k7 : Same H5 (upd (upd H5 q6 (.lst [.int (z + 1)])) p6 (.lst (ms.map V.int ++ [.int (z + 1)]))) := same_of (same_of (Same.refl _) hq6) hp6
      have ex : ms.map V.int ++ [V.int (z + 1)] = (ms ++ [z + 1]).map V.int := by rw [List.map_append]; rfl
      rw [ex] at k7 ⊢
      refine for_list (xs := (ms ++ [z + 1]).map V.int) (fun j σ H' => ∃ (x4 x7 : Option V), σ = [some (.ref a), some (.int (0 + (i : Int))), some (.ref A1), some (.ref L1), x4, some (.ref p1), some (.ref p2), x7] ∧ Same H5 H' ∧ H' p6 = some (.lst ((ms ++ [z + 1]).map V.int))) ?_ ?_ ?_ ?_
      · exact ⟨_, _, rfl, k7, upd_same⟩
      · rintro j σ H' _ ⟨x4, x7, rfl, sm7, e7⟩
        exact .inl (.inl e7)
      · rintro j x σ H' hx ⟨x4, x7, rfl, sm7, e7⟩
        rw [List.getElem?_map] at hx
        cases hxi : (ms ++ [z + 1])[j]? with
        | none => rw [hxi] at hx; cases hx
        | some n =>
          rw [hxi] at hx
          obtain rfl : V.int n = x := Option.some.inj hx
          walk_at "w"
          rename_i q8 hq8
          refine for_tup (xs := [n, 0 - n].map V.int) (fun m σ H'' => ∃ (x7 : Option V), σ = [some (.ref a), some (.int (0 + (i : Int))), some (.ref A1), some (.ref L1), some (.int n), some (.ref p1), some (.ref p2), x7] ∧ Same (upd H' q8 (.tup ([n, 0 - n].map V.int))) H'') ?_ ?_ ?_ ?_
          · exact ⟨_, rfl, Same.refl _⟩
          · rintro m σ H'' _ ⟨x7, rfl, sm8⟩
            exact .inl (.inl (sm8 _ _ upd_same))
          · rintro m x σ H'' hx ⟨x7, rfl, sm8⟩
            rw [List.getElem?_map] at hx
            cases hxi : ([n, 0 - n] : List Int)[m]? with
            | none => rw [hxi] at hx; cases hx
            | some l =>
              rw [hxi] at hx
              obtain rfl : V.int l = x := Option.some.inj hx
              have k8 : Same H5 H'' := (same_of sm7 hq8).trans sm8
              walk_at "w"
              refine use_rest (k8 _ _ e5) (k8 _ _ f2) (k8 _ _ f3) hms g1 g2 fun H9 s9 => ?_
              have k9 := k8.trans s9
              walk_at "w"
              refine use_rest (k9 _ _ e5) (k9 _ _ f3) (k9 _ _ f2) hms g2 g1 fun H10 s10 => ?_
              walk_at "w"
              first | exact ⟨_, rfl, (sm8.trans s9).trans s10⟩ | exact (sm8.trans s9).trans s10
          · rintro σ H'' ⟨x7, rfl, sm8⟩
            walk_at "w"
            first | exact ⟨_, _, rfl, (same_of sm7 hq8).trans sm8, ((same_of (Same.refl _) hq8).trans sm8) _ _ e7⟩ | exact ⟨_, rfl, (same_of sm7 hq8).trans sm8, ((same_of (Same.refl _) hq8).trans sm8) _ _ e7⟩ | exact ⟨(same_of sm7 hq8).trans sm8, ((same_of (Same.refl _) hq8).trans sm8) _ _ e7⟩
      · rintro σ H' ⟨x4, x7, rfl, sm7, e7⟩
        walk_at "w"
        first | exact ⟨_, _, _, _, _, _, _, rfl, k6.trans sm7⟩ | exact k6.trans sm7
    · rintro σ H' ⟨x1, x2, x3, x4, x5, x6, x7, rfl, sm⟩
      walk_at "w"
      exact h _
end
end L

namespace X0
end X0
namespace L
open PySem PySem.Spec PyProof.Rows L2 Z X0
theorem all_mk {l : PySem.W.OpenLaw} {w : World} {K : PySem.W.Frag} {h : Heap} {mg : Str → Option Value} {fa : Addr} (X : K.In h) (G : h.Ns mainGlobals mg) (hfa : mg "law" = some (.ref fa))
    {f_clause_of : Addr} {od_clause_of an_clause_of : Option Addr} {sl_clause_of : Array (Option Value)} {oc_clause_of kV_clause_of dc_clause_of pm_clause_of cd_clause_of ct_clause_of  : Value}
    {f_resolve : Addr} {od_resolve an_resolve : Option Addr} {sl_resolve : Array (Option Value)} {oc_resolve kV_resolve dc_resolve pm_resolve cd_resolve ct_resolve  : Value}
    {f_pool : Addr} {od_pool an_pool : Option Addr} {sl_pool : Array (Option Value)} {oc_pool kV_pool dc_pool pm_pool cd_pool ct_pool  : Value}
    {f_take : Addr} {od_take an_take : Option Addr} {sl_take : Array (Option Value)} {oc_take kV_take dc_take pm_take cd_take ct_take  : Value}
    {f_alike : Addr} {od_alike an_alike : Option Addr} {sl_alike : Array (Option Value)} {oc_alike kV_alike dc_alike pm_alike cd_alike ct_alike  : Value}
    {f_chosen : Addr} {od_chosen an_chosen : Option Addr} {sl_chosen : Array (Option Value)} {oc_chosen kV_chosen dc_chosen pm_chosen cd_chosen ct_chosen  : Value}
    {f_literals : Addr} {od_literals an_literals : Option Addr} {sl_literals : Array (Option Value)} {oc_literals kV_literals dc_literals pm_literals cd_literals ct_literals  : Value}
    {f_signed : Addr} {od_signed an_signed : Option Addr} {sl_signed : Array (Option Value)} {oc_signed kV_signed dc_signed pm_signed cd_signed ct_signed  : Value}
    {f_two : Addr} {od_two an_two : Option Addr} {sl_two : Array (Option Value)} {oc_two kV_two dc_two pm_two cd_two ct_two  : Value}
    {f_due : Addr} {od_due an_due : Option Addr} {sl_due : Array (Option Value)} {oc_due kV_due dc_due pm_due cd_due ct_due  : Value}
    {f_holds : Addr} {od_holds an_holds : Option Addr} {sl_holds : Array (Option Value)} {oc_holds kV_holds dc_holds pm_holds cd_holds ct_holds  : Value}
    {f_list_told : Addr} {od_list_told an_list_told : Option Addr} {sl_list_told : Array (Option Value)} {oc_list_told kV_list_told dc_list_told pm_list_told cd_list_told ct_list_told  : Value}
    {f_rest_told : Addr} {od_rest_told an_rest_told : Option Addr} {sl_rest_told : Array (Option Value)} {oc_rest_told kV_rest_told dc_rest_told pm_rest_told cd_rest_told ct_rest_told  : Value}
    {f_law : Addr} {od_law an_law : Option Addr} {sl_law : Array (Option Value)} {oc_law kV_law dc_law pm_law cd_law ct_law  : Value}
    (a_clause_of : PySem.W.nsIn K mainGlobals "clause_of" = some (some (.ref f_clause_of)))
    (l_clause_of : K.lookup f_clause_of = some ⟨oc_clause_of, od_clause_of, .func (PySem.W.fnOf "clause_of" "clause_of" (defArgs s_clause_of) (defBody s_clause_of) (defScope s_clause_of) .none kV_clause_of dc_clause_of pm_clause_of an_clause_of cd_clause_of ct_clause_of), sl_clause_of⟩)
    (c_clause_of : PySem.W.codeIn K cd_clause_of "clause_of" = true)
    (k_clause_of : PySem.W.keepIn K (.ref f_clause_of) = true)
    (a_resolve : PySem.W.nsIn K mainGlobals "resolve" = some (some (.ref f_resolve)))
    (l_resolve : K.lookup f_resolve = some ⟨oc_resolve, od_resolve, .func (PySem.W.fnOf "resolve" "resolve" (defArgs s_resolve) (defBody s_resolve) (defScope s_resolve) .none kV_resolve dc_resolve pm_resolve an_resolve cd_resolve ct_resolve), sl_resolve⟩)
    (c_resolve : PySem.W.codeIn K cd_resolve "resolve" = true)
    (k_resolve : PySem.W.keepIn K (.ref f_resolve) = true)
    (a_pool : PySem.W.nsIn K mainGlobals "_law_pool" = some (some (.ref f_pool)))
    (l_pool : K.lookup f_pool = some ⟨oc_pool, od_pool, .func (PySem.W.fnOf "_law_pool" "_law_pool" (defArgs s_pool) (defBody s_pool) (defScope s_pool) .none kV_pool dc_pool pm_pool an_pool cd_pool ct_pool), sl_pool⟩)
    (c_pool : PySem.W.codeIn K cd_pool "_law_pool" = true)
    (k_pool : PySem.W.keepIn K (.ref f_pool) = true)
    (a_take : PySem.W.nsIn K mainGlobals "_law_take" = some (some (.ref f_take)))
    (l_take : K.lookup f_take = some ⟨oc_take, od_take, .func (PySem.W.fnOf "_law_take" "_law_take" (defArgs s_take) (defBody s_take) (defScope s_take) .none kV_take dc_take pm_take an_take cd_take ct_take), sl_take⟩)
    (c_take : PySem.W.codeIn K cd_take "_law_take" = true)
    (k_take : PySem.W.keepIn K (.ref f_take) = true)
    (a_alike : PySem.W.nsIn K mainGlobals "_law_alike" = some (some (.ref f_alike)))
    (l_alike : K.lookup f_alike = some ⟨oc_alike, od_alike, .func (PySem.W.fnOf "_law_alike" "_law_alike" (defArgs s_alike) (defBody s_alike) (defScope s_alike) .none kV_alike dc_alike pm_alike an_alike cd_alike ct_alike), sl_alike⟩)
    (c_alike : PySem.W.codeIn K cd_alike "_law_alike" = true)
    (k_alike : PySem.W.keepIn K (.ref f_alike) = true)
    (a_chosen : PySem.W.nsIn K mainGlobals "_law_chosen" = some (some (.ref f_chosen)))
    (l_chosen : K.lookup f_chosen = some ⟨oc_chosen, od_chosen, .func (PySem.W.fnOf "_law_chosen" "_law_chosen" (defArgs s_chosen) (defBody s_chosen) (defScope s_chosen) .none kV_chosen dc_chosen pm_chosen an_chosen cd_chosen ct_chosen), sl_chosen⟩)
    (c_chosen : PySem.W.codeIn K cd_chosen "_law_chosen" = true)
    (k_chosen : PySem.W.keepIn K (.ref f_chosen) = true)
    (a_literals : PySem.W.nsIn K mainGlobals "_law_literals" = some (some (.ref f_literals)))
    (l_literals : K.lookup f_literals = some ⟨oc_literals, od_literals, .func (PySem.W.fnOf "_law_literals" "_law_literals" (defArgs s_literals) (defBody s_literals) (defScope s_literals) .none kV_literals dc_literals pm_literals an_literals cd_literals ct_literals), sl_literals⟩)
    (c_literals : PySem.W.codeIn K cd_literals "_law_literals" = true)
    (k_literals : PySem.W.keepIn K (.ref f_literals) = true)
    (a_signed : PySem.W.nsIn K mainGlobals "_law_signed" = some (some (.ref f_signed)))
    (l_signed : K.lookup f_signed = some ⟨oc_signed, od_signed, .func (PySem.W.fnOf "_law_signed" "_law_signed" (defArgs s_signed) (defBody s_signed) (defScope s_signed) .none kV_signed dc_signed pm_signed an_signed cd_signed ct_signed), sl_signed⟩)
    (c_signed : PySem.W.codeIn K cd_signed "_law_signed" = true)
    (k_signed : PySem.W.keepIn K (.ref f_signed) = true)
    (a_two : PySem.W.nsIn K mainGlobals "_law_two" = some (some (.ref f_two)))
    (l_two : K.lookup f_two = some ⟨oc_two, od_two, .func (PySem.W.fnOf "_law_two" "_law_two" (defArgs s_two) (defBody s_two) (defScope s_two) .none kV_two dc_two pm_two an_two cd_two ct_two), sl_two⟩)
    (c_two : PySem.W.codeIn K cd_two "_law_two" = true)
    (k_two : PySem.W.keepIn K (.ref f_two) = true)
    (a_due : PySem.W.nsIn K mainGlobals "_law_due" = some (some (.ref f_due)))
    (l_due : K.lookup f_due = some ⟨oc_due, od_due, .func (PySem.W.fnOf "_law_due" "_law_due" (defArgs s_due) (defBody s_due) (defScope s_due) .none kV_due dc_due pm_due an_due cd_due ct_due), sl_due⟩)
    (c_due : PySem.W.codeIn K cd_due "_law_due" = true)
    (k_due : PySem.W.keepIn K (.ref f_due) = true)
    (a_holds : PySem.W.nsIn K mainGlobals "_law_holds" = some (some (.ref f_holds)))
    (l_holds : K.lookup f_holds = some ⟨oc_holds, od_holds, .func (PySem.W.fnOf "_law_holds" "_law_holds" (defArgs s_holds) (defBody s_holds) (defScope s_holds) .none kV_holds dc_holds pm_holds an_holds cd_holds ct_holds), sl_holds⟩)
    (c_holds : PySem.W.codeIn K cd_holds "_law_holds" = true)
    (k_holds : PySem.W.keepIn K (.ref f_holds) = true)
    (a_list_told : PySem.W.nsIn K mainGlobals "_law_list_told" = some (some (.ref f_list_told)))
    (l_list_told : K.lookup f_list_told = some ⟨oc_list_told, od_list_told, .func (PySem.W.fnOf "_law_list_told" "_law_list_told" (defArgs s_list_told) (defBody s_list_told) (defScope s_list_told) .none kV_list_told dc_list_told pm_list_told an_list_told cd_list_told ct_list_told), sl_list_told⟩)
    (c_list_told : PySem.W.codeIn K cd_list_told "_law_list_told" = true)
    (k_list_told : PySem.W.keepIn K (.ref f_list_told) = true)
    (a_rest_told : PySem.W.nsIn K mainGlobals "_law_rest_told" = some (some (.ref f_rest_told)))
    (l_rest_told : K.lookup f_rest_told = some ⟨oc_rest_told, od_rest_told, .func (PySem.W.fnOf "_law_rest_told" "_law_rest_told" (defArgs s_rest_told) (defBody s_rest_told) (defScope s_rest_told) .none kV_rest_told dc_rest_told pm_rest_told an_rest_told cd_rest_told ct_rest_told), sl_rest_told⟩)
    (c_rest_told : PySem.W.codeIn K cd_rest_told "_law_rest_told" = true)
    (k_rest_told : PySem.W.keepIn K (.ref f_rest_told) = true)
    (a_law : PySem.W.nsIn K mainGlobals "law" = some (some (.ref f_law)))
    (l_law : K.lookup f_law = some ⟨oc_law, od_law, .func (PySem.W.fnOf "law" "law" (defArgs s_law) (defBody s_law) (defScope s_law) .none kV_law dc_law pm_law an_law cd_law ct_law), sl_law⟩)
    (c_law : PySem.W.codeIn K cd_law "law" = true)
    (k_law : PySem.W.keepIn K (.ref f_law) = true)
    (m_len : PySem.W.nsIn K mainGlobals "len" = some none)
    (m_int : PySem.W.nsIn K mainGlobals "int" = some none)
    (m_abs : PySem.W.nsIn K mainGlobals "abs" = some none)
    (m_isinstance : PySem.W.nsIn K mainGlobals "isinstance" = some none)
    (m_range : PySem.W.nsIn K mainGlobals "range" = some none)
    (m_bool : PySem.W.nsIn K mainGlobals "bool" = some none)
    (m_str : PySem.W.nsIn K mainGlobals "str" = some none)
    (m_list : PySem.W.nsIn K mainGlobals "list" = some none)
    (m_tuple : PySem.W.nsIn K mainGlobals "tuple" = some none)
    (m_sorted : PySem.W.nsIn K mainGlobals "sorted" = some none) :
    ∃ fd : FuncData, (∀ (s : Shared) (v : Value), BindsTo s fd ⟨[v], []⟩ [("_law_script", v)]) ∧ ∀ base : Heap, K.In base → base.Ns mainGlobals mg → FnOk l.prog w K mg base CX0 5 fa fd ["_law_script"] (spLaw K) := by
  have e := hfa.symm.trans (PySem.W.mg_of X G a_law)
  have e2 : f_law = fa := by
    cases e
    rfl
  subst e2
  let T : Txt K mg := {
    f_clause_of := f_clause_of, fd_clause_of := _, F_clause_of := fun_mk (st := s_clause_of) l_clause_of c_clause_of k_clause_of, b_clause_of := (fun_mk (st := s_clause_of) l_clause_of c_clause_of k_clause_of).binds (ps := ["literals"]) fun _ _ _ _ _ _ us hl => match us, hl with | [_], _ => rfl, g_clause_of := PySem.W.mg_of X G a_clause_of,
    f_resolve := f_resolve, fd_resolve := _, F_resolve := fun_mk (st := s_resolve) l_resolve c_resolve k_resolve, b_resolve := (fun_mk (st := s_resolve) l_resolve c_resolve k_resolve).binds (ps := ["clause", "literal", "other"]) fun _ _ _ _ _ _ us hl => match us, hl with | [_, _, _], _ => rfl, g_resolve := PySem.W.mg_of X G a_resolve,
    f_pool := f_pool, fd_pool := _, F_pool := fun_mk (st := s_pool) l_pool c_pool k_pool, b_pool := (fun_mk (st := s_pool) l_pool c_pool k_pool).binds (ps := ["_law_script", "_law_k"]) fun _ _ _ _ _ _ us hl => match us, hl with | [_, _], _ => rfl, g_pool := PySem.W.mg_of X G a_pool,
    f_take := f_take, fd_take := _, F_take := fun_mk (st := s_take) l_take c_take k_take, b_take := (fun_mk (st := s_take) l_take c_take k_take).binds (ps := ["_law_pool_here", "_law_size"]) fun _ _ _ _ _ _ us hl => match us, hl with | [_, _], _ => rfl, g_take := PySem.W.mg_of X G a_take,
    f_alike := f_alike, fd_alike := _, F_alike := fun_mk (st := s_alike) l_alike c_alike k_alike, b_alike := (fun_mk (st := s_alike) l_alike c_alike k_alike).binds (ps := ["_law_told", "_law_due_here"]) fun _ _ _ _ _ _ us hl => match us, hl with | [_, _], _ => rfl, g_alike := PySem.W.mg_of X G a_alike,
    f_chosen := f_chosen, fd_chosen := _, F_chosen := fun_mk (st := s_chosen) l_chosen c_chosen k_chosen, b_chosen := (fun_mk (st := s_chosen) l_chosen c_chosen k_chosen).binds (ps := ["_law_pool_here"]) fun _ _ _ _ _ _ us hl => match us, hl with | [_], _ => rfl, g_chosen := PySem.W.mg_of X G a_chosen,
    f_literals := f_literals, fd_literals := _, F_literals := fun_mk (st := s_literals) l_literals c_literals k_literals, b_literals := (fun_mk (st := s_literals) l_literals c_literals k_literals).binds (ps := ["_law_pool_here", "_law_nodes"]) fun _ _ _ _ _ _ us hl => match us, hl with | [_, _], _ => rfl, g_literals := PySem.W.mg_of X G a_literals,
    f_signed := f_signed, fd_signed := _, F_signed := fun_mk (st := s_signed) l_signed c_signed k_signed, b_signed := (fun_mk (st := s_signed) l_signed c_signed k_signed).binds (ps := ["_law_signs", "_law_nodes"]) fun _ _ _ _ _ _ us hl => match us, hl with | [_, _], _ => rfl, g_signed := PySem.W.mg_of X G a_signed,
    f_two := f_two, fd_two := _, F_two := fun_mk (st := s_two) l_two c_two k_two, b_two := (fun_mk (st := s_two) l_two c_two k_two).binds (ps := ["_law_pool_here", "_law_nodes"]) fun _ _ _ _ _ _ us hl => match us, hl with | [_, _], _ => rfl, g_two := PySem.W.mg_of X G a_two,
    f_due := f_due, fd_due := _, F_due := fun_mk (st := s_due) l_due c_due k_due, b_due := (fun_mk (st := s_due) l_due c_due k_due).binds (ps := ["_law_literals_here"]) fun _ _ _ _ _ _ us hl => match us, hl with | [_], _ => rfl, g_due := PySem.W.mg_of X G a_due,
    f_holds := f_holds, fd_holds := _, F_holds := fun_mk (st := s_holds) l_holds c_holds k_holds, b_holds := (fun_mk (st := s_holds) l_holds c_holds k_holds).binds (ps := ["_law_clause", "_law_nodes", "_law_row"]) fun _ _ _ _ _ _ us hl => match us, hl with | [_, _, _], _ => rfl, g_holds := PySem.W.mg_of X G a_holds,
    f_list_told := f_list_told, fd_list_told := _, F_list_told := fun_mk (st := s_list_told) l_list_told c_list_told k_list_told, b_list_told := (fun_mk (st := s_list_told) l_list_told c_list_told k_list_told).binds (ps := ["_law_literals_here"]) fun _ _ _ _ _ _ us hl => match us, hl with | [_], _ => rfl, g_list_told := PySem.W.mg_of X G a_list_told,
    f_rest_told := f_rest_told, fd_rest_told := _, F_rest_told := fun_mk (st := s_rest_told) l_rest_told c_rest_told k_rest_told, b_rest_told := (fun_mk (st := s_rest_told) l_rest_told c_rest_told k_rest_told).binds (ps := ["_law_nodes", "_law_clause", "_law_literal", "_law_other"]) fun _ _ _ _ _ _ us hl => match us, hl with | [_, _, _, _], _ => rfl, g_rest_told := PySem.W.mg_of X G a_rest_told,
    f_law := f_law, fd_law := _, F_law := fun_mk (st := s_law) l_law c_law k_law, b_law := (fun_mk (st := s_law) l_law c_law k_law).binds (ps := ["_law_script"]) fun _ _ _ _ _ _ us hl => match us, hl with | [_], _ => rfl, g_law := PySem.W.mg_of X G a_law,
    m_len := PySem.W.mg_none_of X G m_len,
    m_int := PySem.W.mg_none_of X G m_int,
    m_abs := PySem.W.mg_none_of X G m_abs,
    m_isinstance := PySem.W.mg_none_of X G m_isinstance,
    m_range := PySem.W.mg_none_of X G m_range,
    m_bool := PySem.W.mg_none_of X G m_bool,
    m_str := PySem.W.mg_none_of X G m_str,
    m_list := PySem.W.mg_none_of X G m_list,
    m_tuple := PySem.W.mg_none_of X G m_tuple,
    m_sorted := PySem.W.mg_none_of X G m_sorted }
  exact ⟨PySem.W.fnOf "law" "law" (defArgs s_law) (defBody s_law) (defScope s_law) .none kV_law dc_law pm_law an_law cd_law ct_law, fun s v => .of_eq rfl, fun base _ _ => ok_law T⟩
end L
open PySem PySem.W PyProof.Rows
set_option maxHeartbeats 0 in
theorem PySem.Challenge.cw_papersat_k17_clauses_and_resolve_holds : PySem.Challenge.rw_papersat_k17_clauses_and_resolve.Holds := by
  w_on; o_law; k_head; (case hw => w_witness2)
  k_fill
  refine L2.walk_of (l := PySem.Challenge.rw_papersat_k17_clauses_and_resolve) (n := 63) (k := 5) (x := "_law_script") (CX := fun _ => L2.CX0) (sp := fun w => L.spLaw _) rfl (by decide) rfl ⟨rfl, by decide, by decide⟩ (fun w h Y => PySem.W.kIn_of Y) ?F (fun _ _ a ns hl _ hS => ⟨a, ns, rfl, hS, hl, fun _ => rfl⟩) (fun _ _ _ _ _ h => h)
  case F =>
    intro w mg fa h KX G hmg
    refine' L.all_mk KX G hmg ?a_clause_of ?l_clause_of ?c_clause_of ?k_clause_of ?a_resolve ?l_resolve ?c_resolve ?k_resolve ?a_pool ?l_pool ?c_pool ?k_pool ?a_take ?l_take ?c_take ?k_take ?a_alike ?l_alike ?c_alike ?k_alike ?a_chosen ?l_chosen ?c_chosen ?k_chosen ?a_literals ?l_literals ?c_literals ?k_literals ?a_signed ?l_signed ?c_signed ?k_signed ?a_two ?l_two ?c_two ?k_two ?a_due ?l_due ?c_due ?k_due ?a_holds ?l_holds ?c_holds ?k_holds ?a_list_told ?l_list_told ?c_list_told ?k_list_told ?a_rest_told ?l_rest_told ?c_rest_told ?k_rest_told ?a_law ?l_law ?c_law ?k_law ?m_len ?m_int ?m_abs ?m_isinstance ?m_range ?m_bool ?m_str ?m_list ?m_tuple ?m_sorted
    (case a_clause_of => first | k_is | k_exc | rfl | kernel_rfl); (case l_clause_of => first | k_is | k_exc | rfl | kernel_rfl); (case c_clause_of => first | k_is | k_exc | rfl | kernel_rfl); (case k_clause_of => first | k_is | k_exc | rfl | kernel_rfl); (case a_resolve => first | k_is | k_exc | rfl | kernel_rfl); (case l_resolve => first | k_is | k_exc | rfl | kernel_rfl); (case c_resolve => first | k_is | k_exc | rfl | kernel_rfl); (case k_resolve => first | k_is | k_exc | rfl | kernel_rfl); (case a_pool => first | k_is | k_exc | rfl | kernel_rfl); (case l_pool => first | k_is | k_exc | rfl | kernel_rfl); (case c_pool => first | k_is | k_exc | rfl | kernel_rfl); (case k_pool => first | k_is | k_exc | rfl | kernel_rfl); (case a_take => first | k_is | k_exc | rfl | kernel_rfl); (case l_take => first | k_is | k_exc | rfl | kernel_rfl); (case c_take => first | k_is | k_exc | rfl | kernel_rfl); (case k_take => first | k_is | k_exc | rfl | kernel_rfl); (case a_alike => first | k_is | k_exc | rfl | kernel_rfl); (case l_alike => first | k_is | k_exc | rfl | kernel_rfl); (case c_alike => first | k_is | k_exc | rfl | kernel_rfl); (case k_alike => first | k_is | k_exc | rfl | kernel_rfl); (case a_chosen => first | k_is | k_exc | rfl | kernel_rfl); (case l_chosen => first | k_is | k_exc | rfl | kernel_rfl); (case c_chosen => first | k_is | k_exc | rfl | kernel_rfl); (case k_chosen => first | k_is | k_exc | rfl | kernel_rfl); (case a_literals => first | k_is | k_exc | rfl | kernel_rfl); (case l_literals => first | k_is | k_exc | rfl | kernel_rfl); (case c_literals => first | k_is | k_exc | rfl | kernel_rfl); (case k_literals => first | k_is | k_exc | rfl | kernel_rfl); (case a_signed => first | k_is | k_exc | rfl | kernel_rfl); (case l_signed => first | k_is | k_exc | rfl | kernel_rfl); (case c_signed => first | k_is | k_exc | rfl | kernel_rfl); (case k_signed => first | k_is | k_exc | rfl | kernel_rfl); (case a_two => first | k_is | k_exc | rfl | kernel_rfl); (case l_two => first | k_is | k_exc | rfl | kernel_rfl); (case c_two => first | k_is | k_exc | rfl | kernel_rfl); (case k_two => first | k_is | k_exc | rfl | kernel_rfl); (case a_due => first | k_is | k_exc | rfl | kernel_rfl); (case l_due => first | k_is | k_exc | rfl | kernel_rfl); (case c_due => first | k_is | k_exc | rfl | kernel_rfl); (case k_due => first | k_is | k_exc | rfl | kernel_rfl); (case a_holds => first | k_is | k_exc | rfl | kernel_rfl); (case l_holds => first | k_is | k_exc | rfl | kernel_rfl); (case c_holds => first | k_is | k_exc | rfl | kernel_rfl); (case k_holds => first | k_is | k_exc | rfl | kernel_rfl); (case a_list_told => first | k_is | k_exc | rfl | kernel_rfl); (case l_list_told => first | k_is | k_exc | rfl | kernel_rfl); (case c_list_told => first | k_is | k_exc | rfl | kernel_rfl); (case k_list_told => first | k_is | k_exc | rfl | kernel_rfl); (case a_rest_told => first | k_is | k_exc | rfl | kernel_rfl); (case l_rest_told => first | k_is | k_exc | rfl | kernel_rfl); (case c_rest_told => first | k_is | k_exc | rfl | kernel_rfl); (case k_rest_told => first | k_is | k_exc | rfl | kernel_rfl); (case a_law => first | k_is | k_exc | rfl | kernel_rfl); (case l_law => first | k_is | k_exc | rfl | kernel_rfl); (case c_law => first | k_is | k_exc | rfl | kernel_rfl); (case k_law => first | k_is | k_exc | rfl | kernel_rfl); (case m_len => first | k_is | k_exc | rfl | kernel_rfl); (case m_int => first | k_is | k_exc | rfl | kernel_rfl); (case m_abs => first | k_is | k_exc | rfl | kernel_rfl); (case m_isinstance => first | k_is | k_exc | rfl | kernel_rfl); (case m_range => first | k_is | k_exc | rfl | kernel_rfl); (case m_bool => first | k_is | k_exc | rfl | kernel_rfl); (case m_str => first | k_is | k_exc | rfl | kernel_rfl); (case m_list => first | k_is | k_exc | rfl | kernel_rfl); (case m_tuple => first | k_is | k_exc | rfl | kernel_rfl); (case m_sorted => first | k_is | k_exc | rfl | kernel_rfl)
#print axioms PySem.Challenge.cw_papersat_k17_clauses_and_resolve_holds
