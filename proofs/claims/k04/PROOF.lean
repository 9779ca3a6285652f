import PyProof.Rows.All
import Wide.All
import OpenK.AllK
import Wide.FinOn
import HandS.ForMost
import HandS.ForExc
import HandS.IsInst
import HandS.Gcd
import HandS.Defaults
import HandS.Wide
import HandS.WideBits
import HandS.ExcIs
import HandS.Small
import HandS.Flow
import HandS.Evl
import HandS.DictEq
import HandS.Walk
import HandS.TupLe
import HandS.More
import HandS.ForDict
import HandS.TupAny
import KE.KDictPairs
import KE.KEqDict
import PySem.Challenge.RW_papersat_k04_forms_add_up
set_option Elab.async false
set_option linter.all false
set_option maxRecDepth 100000
set_option maxHeartbeats 4000000
/-! ### short words for readings -/
namespace Z
open PySem PySem.Spec PyProof.Rows L2
variable {σ σ' : L2.St} {H : Hp} {Q : VK} {D : Ends} {ta tb te : TE} {t u : TS} {tt tu : TT} {g : TG} {v x y : V} {i : Nat} {K : PySem.W.Frag} {p : Addr}
theorem w_var (h : σ[i]? = some (some v)) (q : Q v H) : tVar i σ H Q := ⟨v, h, q⟩
theorem w_c (q : Q v H) : tC v σ H Q := q
theorem w_op {r : R2} (h : ta σ H fun x H1 => tb σ H1 fun y H2 => r x y H2 Q) : tOp r ta tb σ H Q := h
theorem w_un {r : V → Hp → VK → Prop} (h : ta σ H fun x H1 => r x H1 Q) : tUn r ta σ H Q := h
theorem w_rI0 {f : Int → Int → V} {a b : Int} (q : Q (f a b) H) : rI0 f (.int a) (.int b) H Q := ⟨a, b, rfl, rfl, q⟩
theorem w_rI {C : Int → Int → Prop} {f : Int → Int → V} {a b : Int} (c : C a b) (q : Q (f a b) H) : rI C f (.int a) (.int b) H Q := ⟨a, b, rfl, rfl, c, q⟩
theorem w_rU {f : Int → V} {a : Int} (q : Q (f a) H) : rU f (.int a) H Q := ⟨a, rfl, q⟩
theorem w_rEq (c : scal x y = true) (q : Q (.bl (decide (x = y))) H) : rEq x y H Q := ⟨c, q⟩
theorem w_rNe (c : scal x y = true) (q : Q (.bl (!decide (x = y))) H) : rNe x y H Q := ⟨c, q⟩
theorem w_rEqI {a b : Int} (q : Q (.bl (decide (a = b))) H) : rEq (.int a) (.int b) H Q := ⟨rfl, by
  rw [show decide (V.int a = V.int b) = decide (a = b) by simp]; exact q⟩
theorem w_rNeI {a b : Int} (q : Q (.bl (!decide (a = b))) H) : rNe (.int a) (.int b) H Q := ⟨rfl, by
  rw [show decide (V.int a = V.int b) = decide (a = b) by simp]; exact q⟩
theorem w_ixL {xs : List V} {k : Int} (h : SqL K H p xs) (a : atI xs k = some v) (q : Q v H) : rIxL K (.ref p) (.int k) H Q := ⟨p, xs, k, v, rfl, rfl, h, a, q⟩
theorem w_ixT {xs : List V} {k : Int} (h : SqT K H p xs) (a : atI xs k = some v) (q : Q v H) : rIxT K (.ref p) (.int k) H Q := ⟨p, xs, k, v, rfl, rfl, h, a, q⟩
theorem w_start (e : σ = σ') (h : t D σ' H) : t D σ H := by rw [e]; exact h
theorem w_seq (h : t { D with nx := u D } σ H) : tSeq t u D σ H := h
theorem w_next (h : D.nx σ H) : tNext D σ H := h
theorem w_break (h : D.bk σ H) : tBreak D σ H := h
theorem w_cont (h : D.ct σ H) : tCont D σ H := h
theorem w_drop (h : te σ H fun _ H1 => D.nx σ H1) : tDrop te D σ H := h
theorem w_ret (h : te σ H D.rt) : tRet te D σ H := h
theorem w_asg (h : te σ H fun x H1 => g x σ H1 D.nx) : tAsg te g D σ H := h
theorem w_gname {R : L2.St → Hp → Prop} (e : σ.set i (some v) = σ') (h : R σ' H) : gName i v σ H R := by rw [← e] at h; exact h
theorem w_ifs (h : tt σ H fun b H1 => if b = true then t D σ H1 else u D σ H1) : tIfS tt t u D σ H := h
theorem w_test {R : Bool → Hp → Prop} (h : te σ H fun x H1 => ∃ k, x = .bl k ∧ R k H1) : tTest te σ H R := h
theorem w_B {R : Bool → Hp → Prop} (h : te σ H fun x H1 => ∃ k, x = .bl k ∧ R k H1) : tB te σ H R := h
theorem w_bl {k : Bool} {R : Bool → Prop} (h : R k) : ∃ c, V.bl k = V.bl c ∧ R c := ⟨k, rfl, h⟩
theorem w_tand {R : Bool → Hp → Prop} (h : tt σ H fun c H1 => if c = true then tu σ H1 R else R false H1) : tAnd tt tu σ H R := h
theorem w_tor {R : Bool → Hp → Prop} (h : tt σ H fun c H1 => if c = true then R true H1 else tu σ H1 R) : tOr tt tu σ H R := h
theorem w_tnot {R : Bool → Hp → Prop} (h : tt σ H fun c H1 => R (!c) H1) : tNot tt σ H R := h
theorem w_andV (h : ta σ H fun x H1 => ∃ c, x = .bl c ∧ if c = true then tb σ H1 Q else Q (.bl false) H1) : tAndV ta tb σ H Q := h
theorem w_orV (h : ta σ H fun x H1 => ∃ c, x = .bl c ∧ if c = true then Q (.bl true) H1 else tb σ H1 Q) : tOrV ta tb σ H Q := h
theorem w_notV (h : ta σ H fun x H1 => ∃ c, x = .bl c ∧ Q (.bl (!c)) H1) : tNotV ta σ H Q := h
theorem w_ifV (h : tt σ H fun c H1 => if c = true then ta σ H1 Q else tb σ H1 Q) : tIf tt ta tb σ H Q := h
theorem w_nil {R : List V → Hp → Prop} (h : R [] H) : tNil σ H R := h
theorem w_cons {tr : TA} {R : List V → Hp → Prop} (h : ta σ H fun x H1 => tr σ H1 fun xs H2 => R (x :: xs) H2) : tCons ta tr σ H R := h
theorem w_cb {r : List V → Hp → VK → Prop} {tl : TA} (h : tl σ H fun vs H1 => r vs H1 Q) : tCB r tl σ H Q := h
theorem w_call {sp : Sp} {dvs : List V} {E : XK} {tl : TA} (h : tl σ H fun vs H1 => sp (vs ++ dvs) H1 Q E) : tCall sp dvs E tl σ H Q := h
theorem w_call0 {sp : Sp} {E : XK} {tl : TA} (h : tl σ H fun vs H1 => sp vs H1 Q E) : tCall sp [] E tl σ H Q := by
  unfold tCall
  simp only [List.append_nil]
  exact h
theorem w_tup {tl : TA} (h : tl σ H fun xs H1 => xs.length ≤ sizeLine ∧ ∀ p, H1 p = none → Q (.ref p) (upd H1 p (.tup xs))) : tTup tl σ H Q := h
theorem w_lst {tl : TA} (h : tl σ H fun xs H1 => xs.length ≤ sizeLine ∧ ∀ p, H1 p = none → Q (.ref p) (upd H1 p (.lst xs))) : tLst tl σ H Q := h
def par2 (a b : Nat) (vs : List V) (σ : L2.St) (H : Hp) (R : L2.St → Hp → Prop) : Prop := ∃ v w, vs = [v, w] ∧ R ((σ.set a (some v)).set b (some w)) H
theorem w_par {a b : Nat} {tl : TA} (h : tl σ H fun vs H1 => par2 a b vs σ H1 D.nx) : tPar a b tl D σ H := h
theorem w_par2 {a b : Nat} {v w : V} {R : L2.St → Hp → Prop} (e : (σ.set a (some v)).set b (some w) = σ') (h : R σ' H) : par2 a b [v, w] σ H R := ⟨v, w, rfl, by rw [e]; exact h⟩
theorem w_gtup {n : Nat} {gs : TGs} {xs : List V} {R : L2.St → Hp → Prop} (h : SqT K H p xs) (l : xs.length = n) (q : gs xs σ H R) : gTup K n gs (.ref p) σ H R := ⟨p, xs, rfl, h, l, q⟩
theorem w_gcons {gs : TGs} {vs : List V} {R : L2.St → Hp → Prop} (h : g v σ H fun σ' H' => gs vs σ' H' R) : gCons g gs (v :: vs) σ H R := ⟨v, vs, rfl, h⟩
theorem w_gnil {R : L2.St → Hp → Prop} (h : R σ H) : gNil [] σ H R := ⟨rfl, h⟩
theorem w_gsub {to ti : TE} {ts : TSet} {R : L2.St → Hp → Prop} (h : to σ H fun o H1 => ti σ H1 fun i H2 => ts o i v H2 fun H3 => R σ H3) : gSub to ti ts v σ H R := h
theorem w_setL {xs : List V} {k : Int} {j : Nat} {R : Hp → Prop} (h : H p = some (.lst xs)) (e : ixN xs.length k = some j) (q : R (upd H p (.lst (xs.set j v)))) : rSetL (.ref p) (.int k) v H R := ⟨p, xs, k, j, rfl, rfl, h, e, q⟩
theorem w_rng1 {tl : TA} {R : It → Hp → Prop} (h : tl σ H fun vs H1 => ∃ j : Int, vs = [.int j] ∧ -(2 ^ 62) ≤ j ∧ j < 2 ^ 62 ∧ R (Itr 0 j.toNat) H1) : iRng1 tl σ H R := h
theorem w_rng1' {j : Int} {R : It → Prop} (h1 : -(2 ^ 62) ≤ j) (h2 : j < 2 ^ 62) (h : R (Itr 0 j.toNat)) : ∃ k : Int, [V.int j] = [.int k] ∧ -(2 ^ 62) ≤ k ∧ k < 2 ^ 62 ∧ R (Itr 0 k.toNat) := ⟨j, rfl, h1, h2, h⟩
theorem w_for {wi : TI} {tb' : TS} (h : wi σ H fun J H1 => ∃ W : Nat → Nat → L2.St → Hp → Prop, (∃ m, W 0 m σ H1) ∧ ∀ i m σ H, W i m σ H →
  (J.stop i H ∧ D.nx σ H) ∨ (J.go i H ∧ ∃ N : L2.St → Hp → Prop, (∀ σ' H', N σ' H' → ∃ m', m' < m ∧ W (i + 1) m' σ' H') ∧ ∀ x H', J.yld i H x H' → g x σ H' fun σ2 H2 => tb' { D with nx := N, ct := N, bk := D.nx } σ2 H2)) : tFor wi g tb' D σ H := h
theorem w_bits (h : te σ H fun x H1 => ∃ i, x = .int i ∧ Q (.int (Builtin.Int.intBits i : Nat)) H1) : tBits te σ H Q := h
theorem w_ex1 {a : Int} {R : Int → Prop} (h : R a) : ∃ i, V.int a = V.int i ∧ R i := ⟨a, rfl, h⟩
theorem w_exl {xs : List V} {R : List V → Prop} (h : R xs) : ∃ ys, xs = ys ∧ R ys := ⟨xs, rfl, h⟩
theorem sz4 {n : Nat} (h : n ≤ 1000) : n ≤ sizeLine := Nat.le_trans h (by decide)
theorem w_ixH {xs : List V} {k : Int} (h : H p = some (.lst xs)) (a : atI xs k = some v) (q : Q v H) : rIxL K (.ref p) (.int k) H Q := ⟨p, xs, k, v, rfl, rfl, .inl (.inl h), a, q⟩
theorem w_ixTH {xs : List V} {k : Int} (h : H p = some (.tup xs)) (a : atI xs k = some v) (q : Q v H) : rIxT K (.ref p) (.int k) H Q := ⟨p, xs, k, v, rfl, rfl, .inl (.inl h), a, q⟩
theorem w_gtupH {n : Nat} {gs : TGs} {xs : List V} {R : L2.St → Hp → Prop} (h : H p = some (.tup xs)) (l : xs.length = n) (q : gs xs σ H R) : gTup K n gs (.ref p) σ H R := ⟨p, xs, rfl, .inl (.inl h), l, q⟩
theorem w_setLu {xs ys : List V} {k : Int} {j : Nat} {R : Hp → Prop} {H0 : Hp} (e : ixN xs.length k = some j) (e2 : xs.set j v = ys) (q : R (upd H0 p (.lst ys))) : rSetL (.ref p) (.int k) v (upd H0 p (.lst xs)) R := ⟨p, xs, k, j, rfl, rfl, upd_same, e, by rw [upd_upd, e2]; exact q⟩
theorem w_setLh {xs ys : List V} {k : Int} {j : Nat} {R : Hp → Prop} (h : H p = some (.lst xs)) (e : ixN xs.length k = some j) (e2 : xs.set j v = ys) (q : R (upd H p (.lst ys))) : rSetL (.ref p) (.int k) v H R := ⟨p, xs, k, j, rfl, rfl, h, e, by rw [e2]; exact q⟩
theorem w_lenL {xs : List V} {R : V → Prop} (h : SqL K H p xs) (q : R (.int xs.length)) : ∃ a ys, [V.ref p] = [.ref a] ∧ (SqL K H a ys ∨ SqT K H a ys) ∧ R (.int ys.length) := ⟨p, xs, rfl, .inl h, q⟩
theorem w_lenT {xs : List V} {R : V → Prop} (h : SqT K H p xs) (q : R (.int xs.length)) : ∃ a ys, [V.ref p] = [.ref a] ∧ (SqL K H a ys ∨ SqT K H a ys) ∧ R (.int ys.length) := ⟨p, xs, rfl, .inr h, q⟩
theorem upd_skip {a b : Addr} {o : HO} {u : Option HO} (h : a ≠ b) (e : H a = u) : (upd H b o) a = u := by rw [upd_ne h]; exact e
section
variable {c A B : Prop} [Decidable c]
theorem w_ite (h1 : c → A) (h2 : ¬ c → B) : if decide c = true then A else B := by
  by_cases h : c
  · rw [if_pos (decide_eq_true h)]; exact h1 h
  · rw [if_neg (fun z => h (of_decide_eq_true z))]; exact h2 h
theorem w_iteN (h1 : ¬ c → A) (h2 : c → B) : if (!decide c) = true then A else B := by
  by_cases h : c
  · rw [decide_eq_true h]; exact h2 h
  · rw [decide_eq_false h]; exact h1 h
theorem w_iteT (h : c) (q : A) : if decide c = true then A else B := by rw [if_pos (decide_eq_true h)]; exact q
theorem w_iteF (h : ¬ c) (q : B) : if decide c = true then A else B := by rw [if_neg (fun z => h (of_decide_eq_true z))]; exact q
theorem w_iteNT (h : ¬ c) (q : A) : if (!decide c) = true then A else B := by rw [decide_eq_false h]; exact q
theorem w_iteNF (h : c) (q : B) : if (!decide c) = true then A else B := by rw [decide_eq_true h]; exact q
theorem w_iteb {k : Bool} (h1 : k = true → A) (h2 : k = false → B) : if k = true then A else B := by
  cases k with
  | true => exact h1 rfl
  | false => exact h2 rfl
theorem w_ibT (q : A) : if true = true then A else B := q
theorem w_ibF (q : B) : if false = true then A else B := q
theorem w_ibNT (q : A) : if (!false) = true then A else B := q
theorem w_ibNF (q : B) : if (!true) = true then A else B := q
end
theorem upd_fresh {a b : Addr} {o : HO} (h : H a = none) (h' : H b = some o) {u : HO} (hu : upd H b u a = none) : True := trivial
theorem fresh_of {a b : Addr} {u : HO} (h : (upd H b u) a = none) : a ≠ b ∧ H a = none := by
  by_cases e : a = b
  · subst e; rw [upd_same] at h; cases h
  · rw [upd_ne e] at h; exact ⟨e, h⟩
theorem pick {ns : List Int} {k : Int} (h0 : 0 ≤ k) (h : k < ns.length) : ∃ z, atI (ns.map V.int) k = some (.int z) ∧ z ∈ ns := by
  obtain ⟨j, rfl⟩ := Int.eq_ofNat_of_zero_le h0
  have hj : j < ns.length := by omega
  refine ⟨ns[j], atI_nat (j := j) ?_, List.getElem_mem hj⟩
  rw [List.getElem?_map, List.getElem?_eq_getElem hj]
  rfl
theorem w_isi {c x : V} {ty u : Value} {b : Bool} (hc : ClsV c u) (ht : TyX K H x ty) (e : PySem.W.kitOne K ty u = some b) (q : Q (.bl b) H) : rIsi K [x, c] H Q := ⟨x, c, ty, u, b, rfl, hc, ht, e, q⟩
theorem w_isi_ii {a : Int} (q : Q (.bl true) H) : rIsi K [.int a, .ty "int"] H Q := w_isi (.ty _) (.base (.int _)) (kit_ty (by decide +kernel)) q
theorem w_isi_ib {a : Int} (q : Q (.bl false) H) : rIsi K [.int a, .ty "bool"] H Q := w_isi (.ty _) (.base (.int _)) (kit_ty (by decide +kernel)) q
theorem w_isi_bb {a : Bool} (q : Q (.bl true) H) : rIsi K [.bl a, .ty "bool"] H Q := w_isi (.ty _) (.base (.bl _)) (kit_ty (by decide +kernel)) q
theorem w_isi_bi {a : Bool} (q : Q (.bl true) H) : rIsi K [.bl a, .ty "int"] H Q := w_isi (.ty _) (.base (.bl _)) (kit_ty (by decide +kernel)) q
theorem w_isi_ss {a : Str} (q : Q (.bl true) H) : rIsi K [.str a, .ty "str"] H Q := w_isi (.ty _) (.base (.str _)) (kit_ty (by decide +kernel)) q
theorem w_isi_is {a : Int} (q : Q (.bl false) H) : rIsi K [.int a, .ty "str"] H Q := w_isi (.ty _) (.base (.int _)) (kit_ty (by decide +kernel)) q
theorem w_isi_tt {xs : List V} (h : H p = some (.tup xs)) (q : Q (.bl true) H) : rIsi K [.ref p, .ty "tuple"] H Q := w_isi (.ty _) (.base (.tup h)) (kit_ty (by decide +kernel)) q
theorem w_isi_tl {xs : List V} (h : H p = some (.tup xs)) (q : Q (.bl false) H) : rIsi K [.ref p, .ty "list"] H Q := w_isi (.ty _) (.base (.tup h)) (kit_ty (by decide +kernel)) q
theorem w_isi_ll {xs : List V} (h : H p = some (.lst xs)) (q : Q (.bl true) H) : rIsi K [.ref p, .ty "list"] H Q := w_isi (.ty _) (.base (.lst h)) (kit_ty (by decide +kernel)) q
theorem w_isi_lt {xs : List V} (h : H p = some (.lst xs)) (q : Q (.bl false) H) : rIsi K [.ref p, .ty "tuple"] H Q := w_isi (.ty _) (.base (.lst h)) (kit_ty (by decide +kernel)) q
theorem w_isi_ti {xs : List V} (h : H p = some (.tup xs)) (q : Q (.bl false) H) : rIsi K [.ref p, .ty "int"] H Q := w_isi (.ty _) (.base (.tup h)) (kit_ty (by decide +kernel)) q
theorem w_isi_tb {xs : List V} (h : H p = some (.tup xs)) (q : Q (.bl false) H) : rIsi K [.ref p, .ty "bool"] H Q := w_isi (.ty _) (.base (.tup h)) (kit_ty (by decide +kernel)) q
theorem w_isi_ts {xs : List V} (h : H p = some (.tup xs)) (q : Q (.bl false) H) : rIsi K [.ref p, .ty "str"] H Q := w_isi (.ty _) (.base (.tup h)) (kit_ty (by decide +kernel)) q
theorem w_isi_li {xs : List V} (h : H p = some (.lst xs)) (q : Q (.bl false) H) : rIsi K [.ref p, .ty "int"] H Q := w_isi (.ty _) (.base (.lst h)) (kit_ty (by decide +kernel)) q
theorem w_isi_lb {xs : List V} (h : H p = some (.lst xs)) (q : Q (.bl false) H) : rIsi K [.ref p, .ty "bool"] H Q := w_isi (.ty _) (.base (.lst h)) (kit_ty (by decide +kernel)) q
theorem w_isi_ls {xs : List V} (h : H p = some (.lst xs)) (q : Q (.bl false) H) : rIsi K [.ref p, .ty "str"] H Q := w_isi (.ty _) (.base (.lst h)) (kit_ty (by decide +kernel)) q
theorem w_gcd {a b : Int} (q : Q (.int (Nat.gcd a.natAbs b.natAbs : Nat)) H) : rGcd [.int a, .int b] H Q := ⟨a, b, rfl, q⟩
theorem w_callN {n m : Nat} {sp : Sp} {gV : List V → List V → List V} {E : XK} {t1 t2 : TA} (h : t1 σ H fun vs H1 => t2 σ H1 fun zs H2 => vs.length = n ∧ zs.length = m ∧ sp (gV vs zs) H2 Q E) : tCallN n m sp gV E t1 t2 σ H Q := h
theorem w_callS {sp : Sp} {E : L2.St → XK} {t1 : TA} (h : t1 σ H fun vs H1 => sp vs H1 Q (E σ)) : tCallS sp E t1 σ H Q := h
theorem same_of {H H' : Hp} {p : Addr} {o : HO} (s : Same H H') (n : H' p = none) : Same H (upd H' p o) := fun b x e => by
  rw [upd_ne (ne_of_none (s b x e) n)]
  exact s b x e
theorem same_mut {H H' : Hp} {p : Addr} {o : HO} (s : Same H H') (n : H p = none) : Same H (upd H' p o) := fun b x e => by
  rw [upd_ne (ne_of_none e n)]
  exact s b x e
theorem w_dnew (h : ∀ d, H d = none → Q (.ref d) (upd H d (.dK []))) : tDNewK σ H Q := h
theorem w_dput {td ty tv : TE} (h : tv σ H fun v H1 => td σ H1 fun x H2 => ty σ H2 fun y H3 => ∃ a H4, x = .ref a ∧ DPut H3 a y v H4 ∧ D.nx σ H4) : sDPut td ty tv D σ H := h
theorem w_din {ty td : TE} (h : ty σ H fun y H1 => td σ H1 fun x H2 => ∃ a o, x = .ref a ∧ DGet H2 a y o ∧ Q (.bl o.isSome) H2) : tDIn ty td σ H Q := h
theorem w_dnin {ty td : TE} (h : ty σ H fun y H1 => td σ H1 fun x H2 => ∃ a o, x = .ref a ∧ DGet H2 a y o ∧ Q (.bl (!o.isSome)) H2) : tDNotIn ty td σ H Q := h
theorem w_iTup {tl : TE} {R : It → Hp → Prop} (h : tl σ H fun x H1 => ∃ a, x = .ref a ∧ (∃ xs, SqT K H1 a xs) ∧ R (Itt K a) H1) : iTup K tl σ H R := h
theorem w_iList {tl : TE} {R : It → Hp → Prop} (h : tl σ H fun x H1 => ∃ a, x = .ref a ∧ (∃ xs, SqL K H1 a xs) ∧ R (Itl K a) H1) : iList K tl σ H R := h
theorem w_lc {wi : TI} {ivs : List Nat} (h : wi σ H fun J H1 => ∀ Dl, H1 Dl = none → ∃ W : Nat → Nat → Hp → Prop, (∃ m, W 0 m (upd H1 Dl (.lst []))) ∧ ∀ i m H, W i m H →
  (J.stop i H ∧ Q (.ref Dl) H) ∨ (J.go i H ∧ ∃ Nx : Hp → Prop, (∀ H', Nx H' → ∃ m', m' < m ∧ W (i + 1) m' H') ∧ ∀ x H', J.yld i H x H' → g x (wipe σ ivs) H' fun σ2 H2 => wipe σ2 ivs = wipe σ ivs ∧ tt σ2 H2 fun b H3 =>
    if b = true then te σ2 H3 fun y H4 => ∃ acc, H4 Dl = some (.lst acc) ∧ acc.length < sizeLine ∧ Nx (upd H4 Dl (.lst (acc ++ [y]))) else Nx H3)) : tLc wi g tt te ivs σ H Q := h
theorem w_yes {R : Bool → Hp → Prop} (h : R true H) : tYes σ H R := h
theorem w_opin {neg : Bool} {xs : List V} (hs : SqL K H p xs ∨ SqT K H p xs) (hx : flatV x = true) (ha : xs.all flatV = true) (q : Q (.bl (if neg then !inV x xs else inV x xs)) H) : rIn K neg x (.ref p) H Q := ⟨p, xs, rfl, hs, hx, ha, q⟩
theorem w_isN (q : Q (.bl (decide (x = .non))) H) : (V.non = V.non ∧ Q (.bl (decide (x = .non))) H) := ⟨rfl, q⟩
theorem w_bm {T : String} {r : V → List V → Hp → VK → Prop} {to : TE} {tl : TA} (h : to σ H fun x H1 => tyV K T x H1 ∧ tl σ H1 fun xs H2 => r x xs H2 Q) : tBM K T r to tl σ H Q := h
theorem w_tyL {xs : List V} {R : Prop} (h : H p = some (.lst xs)) (q : R) : tyV K "list" (.ref p) H ∧ R := ⟨Or.inl ⟨rfl, xs, .inl (.inl h)⟩, q⟩
theorem w_app {xs : List V} (h : H p = some (.lst xs)) (l : xs.length < 100000) (q : Q .non (upd H p (.lst (xs ++ [v])))) : rAppend (.ref p) [v] H Q := ⟨p, xs, v, rfl, rfl, h, Nat.lt_of_lt_of_le l (by decide), q⟩
theorem w_bm0 {T : String} {r : V → List V → Hp → VK → Prop} {to : TE} (h : to σ H fun x H1 => tyV K T x H1 ∧ r x [] H1 Q) : tBM0 K T r to σ H Q := h
theorem w_rev {xs : List V} (h : H p = some (.lst xs)) (q : Q .non (upd H p (.lst xs.reverse))) : rReverse (.ref p) [] H Q := ⟨p, xs, rfl, rfl, h, q⟩
/-- pools -/
def IsPool (o : HO) : Prop := ∃ (c k : Int) (b : Bool) (s : Int), o = .lst [.int c, .int k, .bl b, .int s]
theorem upd_of {a b : Addr} {o : HO} (h : H b = none) {u : HO} (e : H a = some u) : (upd H b o) a = some u := by rw [upd_ne (ne_of_none e h)]; exact e
end Z
local macro_rules | `(tactic| walk_at "sz") => `(tactic| first | omega | (split <;> omega) | ((repeat' split) <;> omega) | (simp only [List.length_map]; (repeat' split) <;> omega))
local macro_rules | `(tactic| walk_at "hp") => `(tactic| first
  | assumption
  | exact L2.upd_same
  | ((refine' Z.upd_of ?h1 ?h2); (case h1 => assumption); (case h2 => walk_at "hp"))
  | ((refine' Z.upd_skip ?h1 ?h2); (case h1 => first | assumption | (apply Ne.symm; assumption)); (case h2 => walk_at "hp")))
local macro_rules | `(tactic| walk_at "cond") => `(tactic| first
  | exact L2.wide_mul (a := 200) (b := 200) (by omega) (by omega) (by decide) (by decide) (by decide)
  | exact L2.wide_div (b := 200) (by omega) (by omega) (by decide) (by decide)
  | exact ⟨by omega, by omega⟩
  | omega
  | exact (show (0 : Int) < _ by omega)
  | exact Or.inl ⟨by omega, by omega⟩
  | exact Or.inr ⟨by omega, by omega⟩
  | exact ⟨by omega, by omega, by decide⟩)
local macro_rules | `(tactic| walk_at "same") => `(tactic| first
  | assumption
  | exact L2.Same.refl _
  | (refine Z.same_of ?_ (by assumption); walk_at "same")
  | (refine Z.same_mut ?_ (by assumption); walk_at "same")
  | exact L2.Same.trans (by assumption) (by walk_at "same"))
local macro_rules | `(tactic| walk_at "seq") => `(tactic| first
  | assumption
  | (refine Or.inl (Or.inl ?_); walk_at "hp")
  | ((refine' L2.Same.seq ?se ?sh); (case sh => assumption); (case se => walk_at "same"))
  | ((refine' Evl.ex_t ?se ?sh); (case sh => assumption); (case se => walk_at "same")))
local macro_rules | `(tactic| walk_at "ar") => `(tactic| first
  | omega
  | (simp only [List.length_map, List.length_cons, List.length_nil]; omega))
local macro_rules | `(tactic| walk_at "w1") => `(tactic| first
  | with_reducible refine Z.w_seq ?_
  | with_reducible refine Z.w_asg ?_
  | with_reducible refine Z.w_op ?_
  | ((with_reducible refine' Z.w_var ?wv ?_); case wv => exact rfl)
  | with_reducible refine Z.w_c ?_
  | with_reducible refine Z.w_rI0 ?_
  | ((with_reducible refine' Z.w_gname ?we ?_); case we => (simp only [List.set_cons_zero, List.set_cons_succ] <;> rfl))
  | with_reducible refine Z.w_cons ?_
  | with_reducible refine Z.w_nil ?_
  | with_reducible refine Z.w_ifs ?_
  | with_reducible refine Z.w_test ?_
  | with_reducible refine Z.w_B ?_
  | with_reducible refine Z.w_bl ?_
  | with_reducible refine Z.w_rEqI ?_
  | with_reducible refine Z.w_rNeI ?_
  | with_reducible refine Z.w_cb ?_
  | with_reducible refine Z.w_call0 ?_
  | with_reducible refine Z.w_call ?_
  | with_reducible refine Z.w_isi_ii ?_
  | with_reducible refine Z.w_isi_ib ?_
  | with_reducible refine Z.w_isi_bb ?_
  | with_reducible refine Z.w_isi_bi ?_
  | with_reducible refine Z.w_isi_ss ?_
  | with_reducible refine Z.w_isi_is ?_
  | ((with_reducible refine' Z.w_isi_tt ?wh ?_); (case wh => walk_at "hp"))
  | ((with_reducible refine' Z.w_isi_tl ?wh ?_); (case wh => walk_at "hp"))
  | ((with_reducible refine' Z.w_isi_ll ?wh ?_); (case wh => walk_at "hp"))
  | ((with_reducible refine' Z.w_isi_lt ?wh ?_); (case wh => walk_at "hp"))
  | ((with_reducible refine' Z.w_isi_ti ?wh ?_); (case wh => walk_at "hp"))
  | ((with_reducible refine' Z.w_isi_tb ?wh ?_); (case wh => walk_at "hp"))
  | ((with_reducible refine' Z.w_isi_ts ?wh ?_); (case wh => walk_at "hp"))
  | ((with_reducible refine' Z.w_isi_li ?wh ?_); (case wh => walk_at "hp"))
  | ((with_reducible refine' Z.w_isi_lb ?wh ?_); (case wh => walk_at "hp"))
  | ((with_reducible refine' Z.w_isi_ls ?wh ?_); (case wh => walk_at "hp"))
  | with_reducible refine Z.w_tand ?_
  | with_reducible refine Z.w_tor ?_
  | with_reducible refine Z.w_tnot ?_
  | with_reducible refine Z.w_ret ?_
  | with_reducible refine Z.w_next ?_
  | with_reducible refine Z.w_un ?_
  | with_reducible refine Z.w_rU ?_
  | with_reducible refine Z.w_tup ?_
  | with_reducible refine Z.w_lst ?_
  | with_reducible refine Z.w_par ?_
  | ((with_reducible refine' Z.w_par2 ?we ?_); case we => (simp only [List.set_cons_zero, List.set_cons_succ] <;> rfl))
  | with_reducible refine Z.w_gsub ?_
  | with_reducible refine Z.w_andV ?_
  | with_reducible refine Z.w_orV ?_
  | with_reducible refine Z.w_notV ?_
  | with_reducible refine Z.w_ifV ?_
  | with_reducible refine Z.w_drop ?_
  | with_reducible refine Z.w_break ?_
  | with_reducible refine Z.w_cont ?_
  | with_reducible refine Z.w_gcons ?_
  | with_reducible refine Z.w_gnil ?_
  | with_reducible refine Z.w_for ?_
  | with_reducible refine Z.w_rng1 ?_
  | with_reducible refine Z.w_bits ?_
  | with_reducible refine Z.w_callN ?_
  | with_reducible refine Z.w_callS ?_
  | with_reducible refine Z.w_gcd ?_
  | with_reducible refine Z.w_dnew (fun d hd => ?_)
  | with_reducible refine Z.w_dput ?_
  | with_reducible refine Z.w_din ?_
  | with_reducible refine Z.w_dnin ?_
  | with_reducible refine Z.w_iTup ?_
  | with_reducible refine Z.w_iList ?_
  | with_reducible refine Z.w_lc ?_
  | with_reducible refine Z.w_yes ?_
  | ((with_reducible refine' ⟨_, rfl, ⟨_, ?wh⟩, ?_⟩); (case wh => walk_at "seq"))
  | with_reducible refine Z.w_ex1 ?_
  | ((with_reducible refine' Z.w_ixH ?wh ?wa ?_); (case wh => walk_at "hp"); (case wa => exact rfl))
  | ((with_reducible refine' Z.w_ixTH ?wh ?wa ?_); (case wh => walk_at "hp"); (case wa => exact rfl))
  | ((with_reducible refine' Z.w_gtupH ?wh ?wa ?_); (case wh => walk_at "hp"); (case wa => exact rfl))
  | ((with_reducible refine' Z.w_setLu ?wh ?wa ?_); (case wh => exact rfl); (case wa => (simp only [Int.reduceToNat, List.set_cons_zero, List.set_cons_succ] <;> rfl)))
  | ((with_reducible refine' Z.w_setLh ?wg ?wh ?wa ?_); (case wg => walk_at "hp"); (case wh => exact rfl); (case wa => (simp only [Int.reduceToNat, List.set_cons_zero, List.set_cons_succ] <;> rfl)))
  | ((with_reducible refine Z.w_rI ?wc ?_); (case wc => walk_at "cond"))
  | with_reducible refine Or.inl ⟨_, rfl, ?_⟩
  | with_reducible refine Or.inr ⟨_, rfl, ?_⟩
  | ((with_reducible refine' ⟨_, _, rfl, Or.inl ?wh, ?_⟩); (case wh => walk_at "seq"))
  | ((with_reducible refine' ⟨_, _, rfl, Or.inr ?wh, ?_⟩); (case wh => walk_at "seq"))
  | ((with_reducible refine' Z.w_ixL ?wh ?wa ?_); (case wh => assumption); (case wa => assumption))
  | with_reducible refine ⟨_, rfl, ?_⟩
  | with_reducible refine ⟨_, _, rfl, ?_⟩
  | ((with_reducible refine ⟨?wl, fun q hq' => ?_⟩); (case wl => exact Z.sz4 (by simp)))
  | with_reducible refine Z.w_ibT ?_
  | with_reducible refine Z.w_ibF ?_
  | with_reducible refine Z.w_ibNT ?_
  | with_reducible refine Z.w_ibNF ?_
  | ((with_reducible refine Z.w_iteT ?wh ?_); (case wh => walk_at "ar"))
  | ((with_reducible refine Z.w_iteF ?wh ?_); (case wh => walk_at "ar"))
  | ((with_reducible refine Z.w_iteNT ?wh ?_); (case wh => walk_at "ar"))
  | ((with_reducible refine Z.w_iteNF ?wh ?_); (case wh => walk_at "ar"))
  | with_reducible refine ⟨rfl, ?_⟩
  | ((with_reducible refine' Z.w_ixH ?wh ?wa ?_); (case wh => walk_at "hp"); (case wa => assumption))
  | ((with_reducible refine' Z.w_ixTH ?wh ?wa ?_); (case wh => walk_at "hp"); (case wa => assumption))
  | ((with_reducible refine' Z.w_ixL ?wh ?wa ?_); (case wh => walk_at "seq"); (case wa => assumption))
  | ((with_reducible refine' Z.w_ixT ?wh ?wa ?_); (case wh => walk_at "seq"); (case wa => assumption))
  | ((with_reducible refine Z.w_iteF ?wh ?_); (case wh => (intro h; cases h; done)))
  | ((with_reducible refine Z.w_iteT ?wh ?_); (case wh => exact rfl))
  | fail "w1")
local macro_rules | `(tactic| walk_at "wi") => `(tactic| first
  | with_reducible refine Z.w_ite (fun hc => ?_) (fun hc => ?_)
  | with_reducible refine Z.w_iteN (fun hc => ?_) (fun hc => ?_)
  | with_reducible refine Z.w_iteb (fun hc => ?_) (fun hc => ?_))
local macro_rules | `(tactic| walk_at "w") => `(tactic| repeat' walk_at "w1")
namespace DT
open PySem PySem.Spec PyProof.Rows L2
/-- what is known of a tuple that was made from a list -/
def Bare (o : Obj) : Prop := o.cls = .type "tuple" ∧ o.dict = none
section
variable {X : Cx}
def rTupZ (K : PySem.W.Frag) : List V → Hp → VK → Prop := fun xs H Q => ∃ (p : Addr) (ys : List V), xs = [.ref p] ∧ SqL K H p ys ∧ ∀ (l : Addr) (o : Obj), H l = none → Bare o → Q (.ref l) (upd H l (.frz o (.tup ys)))
theorem call_tupleZ : CallR X (.type "tuple") (rTupZ X.K) := by
  intro pins s σ H xs us Q I r h
  obtain ⟨p, ys, rfl, hq, q⟩ := h
  obtain ⟨u, rfl, rx⟩ := vals1 r
  cases rx
  obtain ⟨its, r', pl, hz⟩ := I.list hq
  have hlen := r'.length
  refine call_tuple_list pl.isList (fun h' kp => ?_) (by simp only [List.size_toArray] <;> omega)
  have I1 : Inv X pins σ H { s with heap := h' } := I.kept (t' := s.toks) kp
  have I2 : Inv X pins σ (upd H h'.objs.size (.frz { cls := .type "tuple", data := .seq its.toArray } (.tup ys))) { s with heap := h'.push { cls := .type "tuple", data := .seq its.toArray } } :=
    I1.laid (t' := s.toks) (fun b o e => Heap.get?_push_of_some _ e) (Nat.le_refl _) (show ObjOk X.prog X.w _ _ _ (.frz _ (.tup ys)) from ⟨Heap.get?_push_size _ rfl, hz, its, r', IsTup.new _ _⟩)
  exact ⟨.ref h'.objs.size, _, I2, rfl, q _ _ (I1.hok.fresh (Nat.le_refl _)) ⟨rfl, rfl⟩⟩
theorem pairs_of2 {pins : List (Addr × Obj)} {σ : L2.St} {H : Hp} {s : Shared} (I : Inv X pins σ H s) : ∀ {ps : List Addr} {kvs : List (Key × V)}, PySem.Paired (fun p kv => SqT X.K H p [kV kv.1, kv.2]) ps kvs →
    ∃ (prs : List (Key × Value)) (uvs : List (Value × Value)), KV kvs prs ∧ prs.length = ps.length ∧ uvs.length = ps.length ∧ ∀ (j : Nat) (u x : Value), uvs[j]? = some (u, x) → ∃ (b : Addr) (k : Key), ps[j]? = some b ∧ prs[j]? = some (k, x) ∧ IsTup s.heap b #[u, x] ∧ keyIs k u = true
  | _, _, .nil => ⟨[], [], .nil, rfl, rfl, fun j u x e => by simp at e⟩
  | _, _, .cons (a := p) (b := kv) h t => by
    obtain ⟨prs, uvs, r, hl, hl2, hp⟩ := pairs_of2 I t
    obtain ⟨its, rv, ht, _⟩ := I.tuple h
    obtain ⟨u, y, ei, ru, ry⟩ := vals2 rv
    subst ei
    refine ⟨(kv.1, y) :: prs, (u, y) :: uvs, .cons ⟨rfl, ry⟩ r, by rw [List.length_cons, List.length_cons, hl], by rw [List.length_cons, List.length_cons, hl2], fun j u' x e => ?_⟩
    cases j with
    | zero =>
      have e' : (u, y) = (u', x) := Option.some.inj e
      obtain ⟨e1, e2⟩ := Prod.mk.inj e'
      subst e1
      subst e2
      exact ⟨p, kv.1, rfl, rfl, ht, kV_is (P := X.prog) (w := X.w) ru⟩
    | succ j =>
      obtain ⟨b, k, e1, e2, e3⟩ := hp j u' x (by simpa using e)
      exact ⟨b, k, by simpa using e1, by simpa using e2, e3⟩
def rDictT (K : PySem.W.Frag) : List V → Hp → VK → Prop := fun xs H Q => ∃ (a : Addr) (o : Obj) (ps : List Addr) (kvs : List (Key × V)), xs = [.ref a] ∧ H a = some (.frz o (.tup (ps.map V.ref))) ∧ Bare o ∧ PySem.Paired (fun p kv => SqT K H p [kV kv.1, kv.2]) ps kvs ∧
    ∀ p, H p = none → Q (.ref p) (upd H p (.dK (mergeK [] kvs)))
theorem call_dictT (hcalm : X.calm = true) : CallR X (.type "dict") (rDictT X.K) := by
  intro pins s σ H xs us Q I r q
  obtain ⟨a, o, ps, kvs, rfl, ha, ⟨hcls, hdict⟩, hp, q⟩ := q
  obtain ⟨u, rfl, rx⟩ := vals1 r
  cases rx
  obtain ⟨ho, hz, its, rv, o', ho', hc', n, hdat⟩ := (show ObjOk X.prog X.w H s.heap a (.frz o (.tup (ps.map V.ref))) from I.hok a _ ha)
  have eo : o' = o := Option.some.inj (ho'.symm.trans ho)
  subst eo
  have ei := refs_at rv
  subst ei
  rw [List.length_map] at hz
  obtain ⟨prs, uvs, rel, hl, hl2, hpr⟩ := pairs_of2 I hp
  have hP := PairArg.tuple (prog := X.prog) (w := X.w) a (ps.map Value.ref).toArray (fun j => ps.getD j 0) uvs
  refine PySem.call_dict_pairs (knd := mixKind X.prog X.w) (kvs := prs) hP (I.ok.hd hcalm) ⟨⟨o', n, ho, hc', hdict, hdat⟩, ?_, fun j k v e => ?_⟩ ⟨by rw [hl, hl2], fun i key v e => ?_⟩ (by rw [hl2]; exact hz) fun h' tk hd' k => ?_
  · simp [hl2]
  · obtain ⟨b, k', e1, e2, e3, e4⟩ := hpr j k v e
    have hg : ps.getD j 0 = b := by
      rw [List.getD_eq_getElem?_getD, e1]
      rfl
    show (ps.map Value.ref).toArray[j]? = some (.ref (ps.getD j 0)) ∧ PairAt s.heap (ps.getD j 0) k v
    rw [hg]
    exact ⟨by simp [e1], .inl e3⟩
  · obtain ⟨b, k', e1, e2, e3, e4⟩ := hpr i key v e
    exact ⟨k', e2, e4⟩
  · have hm : (s.heap.objs.size == sysModules) = false := beq_eq_false_iff_ne.mpr (Nat.ne_of_gt I.big)
    have hlen : (mergeK [] kvs).length ≤ sizeLine := by
      refine Nat.le_trans (length_mergeK kvs []) ?_
      rw [List.length_nil, Nat.zero_add, rel.length, hl]
      exact hz
    exact ⟨.ref s.heap.objs.size, upd H s.heap.objs.size (.dK (mergeK [] kvs)), I.laid (t' := tk) (fun b o e => k b o (by intro h; cases h) e) (Nat.le_refl _) (show ObjOk X.prog X.w _ _ _ (.dK (mergeK [] kvs)) from ⟨hlen, hm, merged [] prs, KV.merge rel .nil, hd'⟩), rfl, q _ (I.hok.fresh (Nat.le_refl _))⟩
theorem hits_ref {A : Around} {s : Shared} {kvs : List (Key × V)} {vb : List (Key × Value)} (rb : KV kvs vb) {ks : List (Key × V)} {va : List (Key × Value)} (ra : KV ks va) :
    (∀ p ∈ ks, valV kvs p.1 = some p.2 ∧ ∃ t, p.2 = V.ref t) → PySem.W.KeqHits A s vb va true := by
  unfold KV at ra
  induction ra with
  | nil => intro _; exact .nil
  | @cons p q ps qs h t ih =>
    intro hp
    obtain ⟨h1, h2⟩ := h
    obtain ⟨e, t', f⟩ := hp p List.mem_cons_self
    have rr : RelO (some p.2) (valueAt vb p.1) := by rw [← e]; exact rb.val p.1
    obtain ⟨y, hy, ry⟩ := rr.some_of
    obtain ⟨k, v⟩ := q
    have h1' : p.1 = k := h1
    rw [h1'] at hy
    rw [f] at ry h2
    have e1 : y = Value.ref t' := ry
    have e2 : v = Value.ref t' := h2
    subst e1
    subst e2
    show PySem.W.KeqHits A s vb ((k, Value.ref t') :: qs) (true && true)
    exact .hit hy (SeqAt.EqAt.same _) (ih fun p' hm => hp p' (List.mem_cons_of_mem _ hm))
def rEqDR : R2 := fun x y H Q => ∃ (a b : Addr) (kvs : List (Key × V)), x = .ref a ∧ y = .ref b ∧ H a = some (.dK kvs) ∧ H b = some (.dK kvs) ∧ (kvs.map (·.1)).Nodup ∧ (∀ p ∈ kvs, ∃ t, p.2 = V.ref t) ∧ Q (.bl true) H
theorem op_eq_dictR (hu : X.A.units < cLine) : OpR X (compareOp .Eq) rEqDR := by
  intro pins s σ H x y v u Q I rx ry h
  obtain ⟨a, b, kvs, rfl, rfl, ea, eb, nd, fl, q⟩ := h
  obtain rfl : v = Value.ref a := rx
  obtain rfl : u = Value.ref b := ry
  obtain ⟨_, ya, va, ra, da⟩ := (show ObjOk X.prog X.w H s.heap a (.dK kvs) from I.hok a _ ea)
  obtain ⟨_, yb, vb, rb, db⟩ := (show ObjOk X.prog X.w H s.heap b (.dK kvs) from I.hok b _ eb)
  have hl : va.length = vb.length := by rw [← ra.length, ← rb.length]
  exact PySem.W.keq_eq (knd := mixKind X.prog X.w) (r := true) ya yb da db hu (fun _ => hits_ref rb ra fun p hp => ⟨val_nodup nd p hp, fl p hp⟩) (fin_bl I q (by simp [hl]))
end
end DT

namespace L
open PySem PySem.Spec PyProof.Rows L2 Z
abbrev D_ratio : List V := [.int 1]
def topS (i : Nat) : Stmt := PySem.Challenge.pw_papersat_k04_forms_add_up.main.body.getD i (.Pass ⟨0, 0, 0, 0⟩)
abbrev s_ratio : Stmt := topS 7
abbrev N_ratio : List Str := ["p", "q", "common"]
theorem sc_ratio : FnScope N_ratio ["p", "q"] (defScope s_ratio) := ⟨rfl, rfl, rfl, by decide +kernel, rfl, by decide +kernel, by decide +kernel⟩
abbrev s_plus : Stmt := topS 8
abbrev N_plus : List Str := ["a", "b"]
theorem sc_plus : FnScope N_plus ["a", "b"] (defScope s_plus) := ⟨rfl, rfl, rfl, by decide +kernel, rfl, by decide +kernel, by decide +kernel⟩
abbrev s_times : Stmt := topS 9
abbrev N_times : List Str := ["a", "b"]
theorem sc_times : FnScope N_times ["a", "b"] (defScope s_times) := ⟨rfl, rfl, rfl, by decide +kernel, rfl, by decide +kernel, by decide +kernel⟩
abbrev s_constant_form : Stmt := topS 11
abbrev N_constant_form : List Str := ["a"]
theorem sc_constant_form : FnScope N_constant_form ["a"] (defScope s_constant_form) := ⟨rfl, rfl, rfl, by decide +kernel, rfl, by decide +kernel, by decide +kernel⟩
abbrev s_base_form : Stmt := topS 12
abbrev N_base_form : List Str := ["node"]
theorem sc_base_form : FnScope N_base_form ["node"] (defScope s_base_form) := ⟨rfl, rfl, rfl, by decide +kernel, rfl, by decide +kernel, by decide +kernel⟩
abbrev s_form_plus : Stmt := topS 13
abbrev N_form_plus : List Str := ["f", "g", "total", "node", "coefficient", "rows"]
theorem sc_form_plus : FnScope N_form_plus ["f", "g"] (defScope s_form_plus) := ⟨rfl, rfl, rfl, by decide +kernel, rfl, by decide +kernel, by decide +kernel⟩
abbrev s_form_times : Stmt := topS 14
abbrev N_form_times : List Str := ["a", "f", "rows", "node", "coefficient"]
theorem sc_form_times : FnScope N_form_times ["a", "f"] (defScope s_form_times) := ⟨rfl, rfl, rfl, by decide +kernel, rfl, by decide +kernel, by decide +kernel⟩
abbrev s_form_value : Stmt := topS 15
abbrev N_form_value : List Str := ["f", "values", "total", "node", "coefficient"]
theorem sc_form_value : FnScope N_form_value ["f", "values"] (defScope s_form_value) := ⟨rfl, rfl, rfl, by decide +kernel, rfl, by decide +kernel, by decide +kernel⟩
abbrev s_pool : Stmt := topS 17
abbrev N_pool : List Str := ["_law_script", "_law_k", "_law_cell", "_law_spare"]
theorem sc_pool : FnScope N_pool ["_law_script", "_law_k"] (defScope s_pool) := ⟨rfl, rfl, rfl, by decide +kernel, rfl, by decide +kernel, by decide +kernel⟩
abbrev s_take : Stmt := topS 18
abbrev N_take : List Str := ["_law_pool_here", "_law_size", "_law_k", "_law_cell", "_law_mixed"]
theorem sc_take : FnScope N_take ["_law_pool_here", "_law_size"] (defScope s_take) := ⟨rfl, rfl, rfl, by decide +kernel, rfl, by decide +kernel, by decide +kernel⟩
abbrev s_whole : Stmt := topS 19
abbrev N_whole : List Str := ["_law_value"]
theorem sc_whole : FnScope N_whole ["_law_value"] (defScope s_whole) := ⟨rfl, rfl, rfl, by decide +kernel, rfl, by decide +kernel, by decide +kernel⟩
abbrev s_sized : Stmt := topS 20
abbrev N_sized : List Str := ["_law_pool_here", "_law_pieces", "_law_size", "_law_total", "_law_k"]
theorem sc_sized : FnScope N_sized ["_law_pool_here", "_law_pieces"] (defScope s_sized) := ⟨rfl, rfl, rfl, by decide +kernel, rfl, by decide +kernel, by decide +kernel⟩
abbrev s_lowest : Stmt := topS 21
abbrev N_lowest : List Str := ["_law_p", "_law_q", "_law_a", "_law_b", "_law_k"]
theorem sc_lowest : FnScope N_lowest ["_law_p", "_law_q"] (defScope s_lowest) := ⟨rfl, rfl, rfl, by decide +kernel, rfl, by decide +kernel, by decide +kernel⟩
abbrev s_add : Stmt := topS 22
abbrev N_add : List Str := ["_law_a", "_law_b"]
theorem sc_add : FnScope N_add ["_law_a", "_law_b"] (defScope s_add) := ⟨rfl, rfl, rfl, by decide +kernel, rfl, by decide +kernel, by decide +kernel⟩
abbrev s_mul : Stmt := topS 23
abbrev N_mul : List Str := ["_law_a", "_law_b"]
theorem sc_mul : FnScope N_mul ["_law_a", "_law_b"] (defScope s_mul) := ⟨rfl, rfl, rfl, by decide +kernel, rfl, by decide +kernel, by decide +kernel⟩
abbrev s_Lratio : Stmt := topS 24
abbrev N_Lratio : List Str := ["_law_pool_here", "_law_long", "_law_top"]
theorem sc_Lratio : FnScope N_Lratio ["_law_pool_here", "_law_long"] (defScope s_Lratio) := ⟨rfl, rfl, rfl, by decide +kernel, rfl, by decide +kernel, by decide +kernel⟩
abbrev s_factor : Stmt := topS 25
abbrev N_factor : List Str := ["_law_pool_here", "_law_long", "_law_factor_here"]
theorem sc_factor : FnScope N_factor ["_law_pool_here", "_law_long"] (defScope s_factor) := ⟨rfl, rfl, rfl, by decide +kernel, rfl, by decide +kernel, by decide +kernel⟩
abbrev s_formed : Stmt := topS 26
abbrev N_formed : List Str := ["_law_constant", "_law_out", "_law_node"]
theorem sc_formed : FnScope N_formed ["_law_constant", "_law_out"] (defScope s_formed) := ⟨rfl, rfl, rfl, by decide +kernel, rfl, by decide +kernel, by decide +kernel⟩
abbrev s_first : Stmt := topS 27
abbrev N_first : List Str := ["_law_pool_here", "_law_long", "_law_many", "_law_out", "_law_node", "_law_k", "_law_wide"]
theorem sc_first : FnScope N_first ["_law_pool_here", "_law_long"] (defScope s_first) := ⟨rfl, rfl, rfl, by decide +kernel, rfl, by decide +kernel, by decide +kernel⟩
abbrev s_second : Stmt := topS 28
abbrev N_second : List Str := ["_law_pool_here", "_law_long", "_law_f", "_law_out", "_law_row", "_law_way", "_law_many", "_law_k", "_law_node", "_law_constant"]
theorem sc_second : FnScope N_second ["_law_pool_here", "_law_long", "_law_f"] (defScope s_second) := ⟨rfl, rfl, rfl, by decide +kernel, rfl, by decide +kernel, by decide +kernel⟩
abbrev s_some : Stmt := topS 29
abbrev N_some : List Str := ["_law_pool_here", "_law_long", "_law_way"]
theorem sc_some : FnScope N_some ["_law_pool_here", "_law_long"] (defScope s_some) := ⟨rfl, rfl, rfl, by decide +kernel, rfl, by decide +kernel, by decide +kernel⟩
abbrev s_values : Stmt := topS 30
abbrev N_values : List Str := ["_law_pool_here", "_law_long", "_law_f", "_law_g", "_law_values_here", "_law_row", "_law_k", "_law_node"]
theorem sc_values : FnScope N_values ["_law_pool_here", "_law_long", "_law_f", "_law_g"] (defScope s_values) := ⟨rfl, rfl, rfl, by decide +kernel, rfl, by decide +kernel, by decide +kernel⟩
abbrev s_summed : Stmt := topS 31
abbrev N_summed : List Str := ["_law_f", "_law_g", "_law_out", "_law_row"]
theorem sc_summed : FnScope N_summed ["_law_f", "_law_g"] (defScope s_summed) := ⟨rfl, rfl, rfl, by decide +kernel, rfl, by decide +kernel, by decide +kernel⟩
abbrev s_multiple : Stmt := topS 32
abbrev N_multiple : List Str := ["_law_a", "_law_f", "_law_out", "_law_row"]
theorem sc_multiple : FnScope N_multiple ["_law_a", "_law_f"] (defScope s_multiple) := ⟨rfl, rfl, rfl, by decide +kernel, rfl, by decide +kernel, by decide +kernel⟩
abbrev s_worth : Stmt := topS 33
abbrev N_worth : List Str := ["_law_f", "_law_values_here", "_law_total", "_law_row"]
theorem sc_worth : FnScope N_worth ["_law_f", "_law_values_here"] (defScope s_worth) := ⟨rfl, rfl, rfl, by decide +kernel, rfl, by decide +kernel, by decide +kernel⟩
abbrev s_pair : Stmt := topS 34
abbrev N_pair : List Str := ["_law_told"]
theorem sc_pair : FnScope N_pair ["_law_told"] (defScope s_pair) := ⟨rfl, rfl, rfl, by decide +kernel, rfl, by decide +kernel, by decide +kernel⟩
abbrev s_is : Stmt := topS 35
abbrev N_is : List Str := ["_law_told", "_law_due", "_law_row"]
theorem sc_is : FnScope N_is ["_law_told", "_law_due"] (defScope s_is) := ⟨rfl, rfl, rfl, by decide +kernel, rfl, by decide +kernel, by decide +kernel⟩
abbrev s_valued : Stmt := topS 36
abbrev N_valued : List Str := ["_law_f", "_law_values_here", "_law_due", "_law_handed", "_law_told"]
theorem sc_valued : FnScope N_valued ["_law_f", "_law_values_here", "_law_due"] (defScope s_valued) := ⟨rfl, rfl, rfl, by decide +kernel, rfl, by decide +kernel, by decide +kernel⟩
abbrev s_all : Stmt := topS 37
abbrev N_all : List Str := ["_law_f", "_law_g", "_law_a", "_law_values_here", "_law_total", "_law_twice", "_law_many", "_law_one", "_law_two", "_law_both", "_law_scaled", "_law_turn"]
theorem sc_all : FnScope N_all ["_law_f", "_law_g", "_law_a", "_law_values_here"] (defScope s_all) := ⟨rfl, rfl, rfl, by decide +kernel, rfl, by decide +kernel, by decide +kernel⟩
abbrev s_law : Stmt := topS 38
abbrev N_law : List Str := ["_law_script", "_law_k", "_law_pool_here", "_law_long", "_law_f", "_law_g", "_law_a", "_law_values_here", "_law_node"]
theorem sc_law : FnScope N_law ["_law_script"] (defScope s_law) := ⟨rfl, rfl, rfl, by decide +kernel, rfl, by decide +kernel, by decide +kernel⟩
structure Txt (K : PySem.W.Frag) (mg : Str → Option Value) : Type where
  f_ratio : Addr
  fd_ratio : FuncData
  F_ratio : FunD K "ratio" "ratio" (defArgs s_ratio) (defBody s_ratio) (defScope s_ratio) D_ratio [] f_ratio fd_ratio
  g_ratio : mg "ratio" = some (.ref f_ratio)
  f_plus : Addr
  fd_plus : FuncData
  F_plus : Fun K "plus" "plus" s_plus f_plus fd_plus
  b_plus : Binds K fd_plus ["a", "b"] []
  g_plus : mg "plus" = some (.ref f_plus)
  f_times : Addr
  fd_times : FuncData
  F_times : Fun K "times" "times" s_times f_times fd_times
  b_times : Binds K fd_times ["a", "b"] []
  g_times : mg "times" = some (.ref f_times)
  f_constant_form : Addr
  fd_constant_form : FuncData
  F_constant_form : Fun K "constant_form" "constant_form" s_constant_form f_constant_form fd_constant_form
  b_constant_form : Binds K fd_constant_form ["a"] []
  g_constant_form : mg "constant_form" = some (.ref f_constant_form)
  f_base_form : Addr
  fd_base_form : FuncData
  F_base_form : Fun K "base_form" "base_form" s_base_form f_base_form fd_base_form
  b_base_form : Binds K fd_base_form ["node"] []
  g_base_form : mg "base_form" = some (.ref f_base_form)
  f_form_plus : Addr
  fd_form_plus : FuncData
  F_form_plus : Fun K "form_plus" "form_plus" s_form_plus f_form_plus fd_form_plus
  b_form_plus : Binds K fd_form_plus ["f", "g"] []
  g_form_plus : mg "form_plus" = some (.ref f_form_plus)
  f_form_times : Addr
  fd_form_times : FuncData
  F_form_times : Fun K "form_times" "form_times" s_form_times f_form_times fd_form_times
  b_form_times : Binds K fd_form_times ["a", "f"] []
  g_form_times : mg "form_times" = some (.ref f_form_times)
  f_form_value : Addr
  fd_form_value : FuncData
  F_form_value : Fun K "form_value" "form_value" s_form_value f_form_value fd_form_value
  b_form_value : Binds K fd_form_value ["f", "values"] []
  g_form_value : mg "form_value" = some (.ref f_form_value)
  f_pool : Addr
  fd_pool : FuncData
  F_pool : Fun K "_law_pool" "_law_pool" s_pool f_pool fd_pool
  b_pool : Binds K fd_pool ["_law_script", "_law_k"] []
  g_pool : mg "_law_pool" = some (.ref f_pool)
  f_take : Addr
  fd_take : FuncData
  F_take : Fun K "_law_take" "_law_take" s_take f_take fd_take
  b_take : Binds K fd_take ["_law_pool_here", "_law_size"] []
  g_take : mg "_law_take" = some (.ref f_take)
  f_whole : Addr
  fd_whole : FuncData
  F_whole : Fun K "_law_whole" "_law_whole" s_whole f_whole fd_whole
  b_whole : Binds K fd_whole ["_law_value"] []
  g_whole : mg "_law_whole" = some (.ref f_whole)
  f_sized : Addr
  fd_sized : FuncData
  F_sized : Fun K "_law_sized" "_law_sized" s_sized f_sized fd_sized
  b_sized : Binds K fd_sized ["_law_pool_here", "_law_pieces"] []
  g_sized : mg "_law_sized" = some (.ref f_sized)
  f_lowest : Addr
  fd_lowest : FuncData
  F_lowest : Fun K "_law_lowest" "_law_lowest" s_lowest f_lowest fd_lowest
  b_lowest : Binds K fd_lowest ["_law_p", "_law_q"] []
  g_lowest : mg "_law_lowest" = some (.ref f_lowest)
  f_add : Addr
  fd_add : FuncData
  F_add : Fun K "_law_add" "_law_add" s_add f_add fd_add
  b_add : Binds K fd_add ["_law_a", "_law_b"] []
  g_add : mg "_law_add" = some (.ref f_add)
  f_mul : Addr
  fd_mul : FuncData
  F_mul : Fun K "_law_mul" "_law_mul" s_mul f_mul fd_mul
  b_mul : Binds K fd_mul ["_law_a", "_law_b"] []
  g_mul : mg "_law_mul" = some (.ref f_mul)
  f_Lratio : Addr
  fd_Lratio : FuncData
  F_Lratio : Fun K "_law_ratio" "_law_ratio" s_Lratio f_Lratio fd_Lratio
  b_Lratio : Binds K fd_Lratio ["_law_pool_here", "_law_long"] []
  g_Lratio : mg "_law_ratio" = some (.ref f_Lratio)
  f_factor : Addr
  fd_factor : FuncData
  F_factor : Fun K "_law_factor" "_law_factor" s_factor f_factor fd_factor
  b_factor : Binds K fd_factor ["_law_pool_here", "_law_long"] []
  g_factor : mg "_law_factor" = some (.ref f_factor)
  f_formed : Addr
  fd_formed : FuncData
  F_formed : Fun K "_law_formed" "_law_formed" s_formed f_formed fd_formed
  b_formed : Binds K fd_formed ["_law_constant", "_law_out"] []
  g_formed : mg "_law_formed" = some (.ref f_formed)
  f_first : Addr
  fd_first : FuncData
  F_first : Fun K "_law_first" "_law_first" s_first f_first fd_first
  b_first : Binds K fd_first ["_law_pool_here", "_law_long"] []
  g_first : mg "_law_first" = some (.ref f_first)
  f_second : Addr
  fd_second : FuncData
  F_second : Fun K "_law_second" "_law_second" s_second f_second fd_second
  b_second : Binds K fd_second ["_law_pool_here", "_law_long", "_law_f"] []
  g_second : mg "_law_second" = some (.ref f_second)
  f_some : Addr
  fd_some : FuncData
  F_some : Fun K "_law_some" "_law_some" s_some f_some fd_some
  b_some : Binds K fd_some ["_law_pool_here", "_law_long"] []
  g_some : mg "_law_some" = some (.ref f_some)
  f_values : Addr
  fd_values : FuncData
  F_values : Fun K "_law_values" "_law_values" s_values f_values fd_values
  b_values : Binds K fd_values ["_law_pool_here", "_law_long", "_law_f", "_law_g"] []
  g_values : mg "_law_values" = some (.ref f_values)
  f_summed : Addr
  fd_summed : FuncData
  F_summed : Fun K "_law_summed" "_law_summed" s_summed f_summed fd_summed
  b_summed : Binds K fd_summed ["_law_f", "_law_g"] []
  g_summed : mg "_law_summed" = some (.ref f_summed)
  f_multiple : Addr
  fd_multiple : FuncData
  F_multiple : Fun K "_law_multiple" "_law_multiple" s_multiple f_multiple fd_multiple
  b_multiple : Binds K fd_multiple ["_law_a", "_law_f"] []
  g_multiple : mg "_law_multiple" = some (.ref f_multiple)
  f_worth : Addr
  fd_worth : FuncData
  F_worth : Fun K "_law_worth" "_law_worth" s_worth f_worth fd_worth
  b_worth : Binds K fd_worth ["_law_f", "_law_values_here"] []
  g_worth : mg "_law_worth" = some (.ref f_worth)
  f_pair : Addr
  fd_pair : FuncData
  F_pair : Fun K "_law_pair" "_law_pair" s_pair f_pair fd_pair
  b_pair : Binds K fd_pair ["_law_told"] []
  g_pair : mg "_law_pair" = some (.ref f_pair)
  f_is : Addr
  fd_is : FuncData
  F_is : Fun K "_law_is" "_law_is" s_is f_is fd_is
  b_is : Binds K fd_is ["_law_told", "_law_due"] []
  g_is : mg "_law_is" = some (.ref f_is)
  f_valued : Addr
  fd_valued : FuncData
  F_valued : Fun K "_law_valued" "_law_valued" s_valued f_valued fd_valued
  b_valued : Binds K fd_valued ["_law_f", "_law_values_here", "_law_due"] []
  g_valued : mg "_law_valued" = some (.ref f_valued)
  f_all : Addr
  fd_all : FuncData
  F_all : Fun K "_law_all" "_law_all" s_all f_all fd_all
  b_all : Binds K fd_all ["_law_f", "_law_g", "_law_a", "_law_values_here"] []
  g_all : mg "_law_all" = some (.ref f_all)
  f_law : Addr
  fd_law : FuncData
  F_law : Fun K "law" "law" s_law f_law fd_law
  b_law : Binds K fd_law ["_law_script"] []
  g_law : mg "law" = some (.ref f_law)
  m_len : mg "len" = none
  m_int : mg "int" = none
  m_abs : mg "abs" = none
  m_min : mg "min" = none
  m_max : mg "max" = none
  m_isinstance : mg "isinstance" = none
  m_range : mg "range" = none
  m_bool : mg "bool" = none
  m_list : mg "list" = none
  m_tuple : mg "tuple" = none
  m_sorted : mg "sorted" = none
  m_dict : mg "dict" = none
  A_ZERO : Addr
  g_ZERO : mg "ZERO" = some (.ref A_ZERO)
  z_ZERO : ∀ H : Hp, SqT K H A_ZERO [.int 0, .int 1]
  A_ONE : Addr
  g_ONE : mg "ONE" = some (.ref A_ONE)
  z_ONE : ∀ H : Hp, SqT K H A_ONE [.int 1, .int 1]
  m_gcd : mg "gcd" = some (.builtin "math.gcd")
end L

namespace L
open PySem PySem.Spec PyProof.Rows L2 Z
section
variable {P : Program} {w : World} {K : PySem.W.Frag} {mg : Str → Option Value} {base : Heap}
def spPool (K : PySem.W.Frag) : Sp := fun vs H Q _ => ∃ (a : Addr) (ns : List Int) (k : Int), vs = [.ref a, .int k] ∧ SqL K H a (ns.map V.int) ∧ ns.length ≤ 1000 ∧ 0 ≤ k ∧ k < 2 ^ 62 ∧ ∀ q o, H q = none → IsPool o → Q (.ref q) (upd H q o)
def spTake : Sp := fun vs H Q _ => ∃ (q : Addr) (o : HO) (n : Int), vs = [.ref q, .int n] ∧ H q = some o ∧ IsPool o ∧ 0 < n ∧ n < 1073741824 ∧ ∀ r o', 0 ≤ r → r < n → IsPool o' → Q (.int r) (upd H q o')
theorem ok_take (T : Txt K mg) : FnOk P w K mg base CX0 1 T.f_take T.fd_take ["_law_pool_here", "_law_size"] spTake := by
  refine T.F_take.ok sc_take (fun vs H Q E h => ?_) (fun cdv A outer s H vs Q E hr h => ?_)
  · obtain ⟨q, o, n, rfl, _⟩ := h
    rfl
  · obtain ⟨q, o, n, rfl, ho, ⟨c, k, b, s', rfl⟩, hn, hn2, hq⟩ := h
    refine ⟨_, (pss_cons (ps_set (i := 2) sc_take.nd rfl (.inl rfl) (pe_ix ix_list (pv 0) pe_int (fun _ _ => rfl)))
 (pss_cons (ps_asg (pe_op op_add (pv 2) pe_int) (pg_sub (pv 0) pe_int set_list))
 (pss_cons (ps_set (i := 3) sc_take.nd rfl (.inl rfl) (pe_ix ix_list (pv 0) pe_int (fun _ _ => rfl)))
 (pss_cons (ps_if (PW.pt (pw_and (pt_val (pe_ix ix_list (pv 0) pe_int (fun _ _ => rfl))) (pw_and1 (pt_cmpR op_gt (pv 3) pe_int (nomark _))))) (pss_cons (ps_asg (pe_op op_fdiv (pv 3) (pv 1)) (pg_sub (pv 0) pe_int set_list))
 (pss_one (ps_ret (pe_op op_mod (pe_callTy call_int1 (by rfl) T.m_int (by decide +kernel) (pa_cons (pv 3) pa_nil)) (pv 1))))) pss_nil)
 (pss_cons (ps_if (pt_val (pe_ix ix_list (pv 0) pe_int (fun _ _ => rfl))) (pss_one (ps_set (i := 3) sc_take.nd rfl (.inl rfl) (pe_ix ix_list (pv 0) pe_int (fun _ _ => rfl)))) pss_nil)
 (pss_cons (ps_set (i := 4) sc_take.nd rfl (.inl rfl) (pe_op op_mod (pe_callTy call_int1 (by rfl) T.m_int (by decide +kernel) (pa_cons (pe_op op_add (pe_op op_add (pv 3) (pe_op op_mul pe_int (pv 2))) pe_int) pa_nil)) pe_int))
 (pss_cons (ps_set (i := 4) sc_take.nd rfl (.inl rfl) (pe_op op_mod (pe_callTy call_int1 (by rfl) T.m_int (by decide +kernel) (pa_cons (pe_op op_mul (pv 4) (pe_op op_add (pv 4) pe_int)) pa_nil)) pe_int))
 (pss_cons (ps_set (i := 4) sc_take.nd rfl (.inl rfl) (pe_op op_mod (pe_callTy call_int1 (by rfl) T.m_int (by decide +kernel) (pa_cons (pe_op op_add (pe_op op_mul (pv 4) (pe_op op_add (pv 4) pe_int)) (pe_op op_mul pe_int (pv 2))) pa_nil)) pe_int))
 (pss_one (ps_ret (pe_op op_mod (pe_callTy call_int1 (by rfl) T.m_int (by decide +kernel) (pa_cons (pe_op op_fdiv (pv 4) pe_int) pa_nil)) (pv 1)))))))))))), ?_⟩
    refine Z.w_start (σ' := [some (.ref q), some (.int n), none, none, none]) rfl ?_
    walk_at "w"
    cases b with
    | true =>
      walk_at "w"
      walk_at "wi"
      all_goals walk_at "w"
      all_goals exact hq _ _ (Int.emod_nonneg _ (by omega)) (Int.emod_lt_of_pos _ hn) ⟨_, _, _, _, rfl⟩
    | false =>
      walk_at "w"
      all_goals exact hq _ _ (Int.emod_nonneg _ (by omega)) (Int.emod_lt_of_pos _ hn) ⟨_, _, _, _, rfl⟩
theorem ok_pool (T : Txt K mg) : FnOk P w K mg base CX0 1 T.f_pool T.fd_pool ["_law_script", "_law_k"] (spPool K) := by
  refine T.F_pool.ok sc_pool (fun vs H Q E h => ?_) (fun cdv A outer s H vs Q E hr h => ?_)
  · obtain ⟨a, ns, k, rfl, _⟩ := h
    rfl
  · obtain ⟨a, ns, k, rfl, hS, hl, hk, hk2, hq⟩ := h
    refine ⟨_, (pss_cons (ps_set (i := 2) sc_pool.nd rfl (.inl rfl) (pe_op op_add (pe_op op_mul pe_int (pv 1)) pe_int))
 (pss_cons (ps_set (i := 3) sc_pool.nd rfl (.inl rfl) (pe_op op_add (pe_op op_mul pe_int (pv 1)) pe_int))
 (pss_cons (ps_if (pt_cmpR op_lt (pv 1) (pe_callB call_len_seq (by rfl) T.m_len (by decide +kernel) (pa_cons (pv 0) pa_nil)) (nomark _)) (pss_one (ps_set (i := 2) sc_pool.nd rfl (.inl rfl) (pe_ix ix_list (pv 0) (pv 1) (fun _ _ => rfl)))) pss_nil)
 (pss_cons (ps_if (pt_cmpR op_lt (pe_op op_add (pv 1) pe_int) (pe_callB call_len_seq (by rfl) T.m_len (by decide +kernel) (pa_cons (pv 0) pa_nil)) (nomark _)) (pss_one (ps_set (i := 3) sc_pool.nd rfl (.inl rfl) (pe_ix ix_list (pv 0) (pe_op op_add (pv 1) pe_int) (fun _ _ => rfl)))) pss_nil)
 (pss_one (ps_ret (pe_lst (pa_cons (pv 2) (pa_cons pe_int (pa_cons (pe_cmpR op_ge (pv 2) (pe_op op_pow pe_int pe_int) (nomark _)) (pa_cons (pv 3) pa_nil))))))))))), ?_⟩
    refine Z.w_start (σ' := [some (.ref a), some (.int k), none, none]) rfl ?_
    by_cases h1 : k < ns.length
    · obtain ⟨z1, a1, _⟩ := pick hk h1
      by_cases h2 : k + 1 < ns.length
      · obtain ⟨z2, a2, _⟩ := pick (by omega) h2
        walk_at "w"
        exact hq _ _ (by assumption) ⟨_, _, _, _, rfl⟩
      · walk_at "w"
        exact hq _ _ (by assumption) ⟨_, _, _, _, rfl⟩
    · walk_at "w"
      exact hq _ _ (by assumption) ⟨_, _, _, _, rfl⟩
end
end L

namespace L
open PySem PySem.Spec PyProof.Rows L2 Z
section
variable {P : Program} {w : World} {K : PySem.W.Frag} {mg : Str → Option Value} {base : Heap}
def spWhole : Sp := fun vs H Q _ => ∃ i : Int, vs = [.int i] ∧ Q (.bl true) H
theorem use_whole {i : Int} {H : Hp} {Q : VK} {E : XK} (q : Q (.bl true) H) : spWhole [.int i] H Q E := ⟨i, rfl, q⟩
theorem ok_whole (T : Txt K mg) : FnOk P w K mg base CX0 1 T.f_whole T.fd_whole ["_law_value"] spWhole := by
  refine T.F_whole.ok sc_whole (fun vs H Q E h => ?_) (fun cdv A outer s H vs Q E hr h => ?_)
  · obtain ⟨i, rfl, _⟩ := h
    rfl
  · obtain ⟨i, rfl, hq⟩ := h
    refine ⟨_, (pss_one (ps_ret (pe_and (pe_callB call_isi (by rfl) T.m_isinstance (by decide +kernel) (pa_cons (pv 0) (pa_cons (pe_bltn (v := .ty "int") (by rfl) T.m_int (by decide +kernel) rfl) pa_nil))) (pe_one (pe_not (pe_callB call_isi (by rfl) T.m_isinstance (by decide +kernel) (pa_cons (pv 0) (pa_cons (pe_bltn (v := .ty "bool") (by rfl) T.m_bool (by decide +kernel) rfl) pa_nil)))))))), ?_⟩
    refine Z.w_start (σ' := [some (.int i)]) rfl ?_
    walk_at "w"
    exact hq
end
end L

namespace L
open PySem PySem.Spec PyProof.Rows L2 Z
section
variable {P : Program} {w : World} {K : PySem.W.Frag} {mg : Str → Option Value} {base : Heap}
theorem use_take {q : Addr} {o : HO} {n : Int} {H : Hp} {Q : VK} {E : XK} (h : H q = some o) (hp : IsPool o) (h1 : 0 < n) (h2 : n < 1073741824) (hq : ∀ r o', 0 ≤ r → r < n → IsPool o' → Q (.int r) (upd H q o')) : spTake [.ref q, .int n] H Q E := ⟨q, o, n, rfl, h, hp, h1, h2, hq⟩
theorem use_takeU {q : Addr} {o : HO} {n : Int} {H : Hp} {Q : VK} {E : XK} (hp : IsPool o) (h1 : 0 < n) (h2 : n < 1073741824) (hq : ∀ r o', 0 ≤ r → r < n → IsPool o' → Q (.int r) (upd H q o')) : spTake [.ref q, .int n] (upd H q o) Q E := ⟨q, o, n, rfl, upd_same, hp, h1, h2, fun r o' a b c => by rw [upd_upd]; exact hq r o' a b c⟩
end
end L
local macro_rules | `(tactic| walk_at "w1") => `(tactic| first
  | ((with_reducible refine' L.use_takeU ?wp ?wa ?wb (fun r o' h0 h1 hp => ?_)); (case wp => assumption); (case wa => omega); (case wb => omega))
  | ((with_reducible refine' L.use_take ?wh ?wp ?wa ?wb (fun r o' h0 h1 hp => ?_)); (case wh => walk_at "hp"); (case wp => assumption); (case wa => omega); (case wb => omega))
  | with_reducible refine L.use_whole ?_)
namespace L
open PySem PySem.Spec PyProof.Rows L2 Z
section
variable {P : Program} {w : World} {K : PySem.W.Frag} {mg : Str → Option Value} {base : Heap}
def spSized : Sp := fun vs H Q _ => ∃ (q : Addr) (o : HO) (n : Int), vs = [.ref q, .int n] ∧ H q = some o ∧ IsPool o ∧ 0 ≤ n ∧ n ≤ 3 ∧ ∀ r o', -(10 ^ 18 : Int) < r → r < 10 ^ 18 → IsPool o' → Q (.int r) (upd H q o')
theorem ok_sized (T : Txt K mg) : FnOk P w K mg base CX0 2 T.f_sized T.fd_sized ["_law_pool_here", "_law_pieces"] spSized := by
  have G_take := ok_take (P := P) (w := w) (base := base) T
  refine T.F_sized.ok sc_sized (fun vs H Q E h => ?_) (fun cdv A outer s H vs Q E hr h => ?_)
  · obtain ⟨q, o, n, rfl, _⟩ := h
    rfl
  · obtain ⟨q, o, n', rfl, ho, hp, hn0, hn, hq⟩ := h
    obtain ⟨n, rfl⟩ := Int.eq_ofNat_of_zero_le hn0
    refine ⟨_, (pss_cons (ps_set (i := 2) sc_sized.nd rfl (.inl rfl) (pe_call G_take (hr.mono (by decide)) (by rfl) T.g_take T.F_take.kp T.b_take .nil pass0 (pa_cons (pv 0) (pa_cons pe_int pa_nil))))
 (pss_cons (ps_set (i := 3) sc_sized.nd rfl (.inl rfl) (pe_call G_take (hr.mono (by decide)) (by rfl) T.g_take T.F_take.kp T.b_take .nil pass0 (pa_cons (pv 0) (pa_cons pe_int pa_nil))))
 (pss_cons (ps_if (pt_cmpR op_eq (pv 2) pe_int (nomark _)) (pss_one (ps_set (i := 3) sc_sized.nd rfl (.inl rfl) (pe_call G_take (hr.mono (by decide)) (by rfl) T.g_take T.F_take.kp T.b_take .nil pass0 (pa_cons (pv 0) (pa_cons pe_int pa_nil))))) pss_nil)
 (pss_cons (ps_if (pt_cmpR op_eq (pv 2) pe_int (nomark _)) (pss_one (ps_set (i := 3) sc_sized.nd rfl (.inl rfl) (pe_call G_take (hr.mono (by decide)) (by rfl) T.g_take T.F_take.kp T.b_take .nil pass0 (pa_cons (pv 0) (pa_cons pe_int pa_nil))))) pss_nil)
 (pss_cons (ps_if (pt_cmpR op_eq (pv 2) pe_int (nomark _)) (pss_cons (ps_set (i := 3) sc_sized.nd rfl (.inl rfl) pe_int)
 (pss_one (ps_for PassesOwn.never rfl (pi_range1 (by rfl) T.m_range (pa_cons (pv 1) pa_nil)) (pg_name (i := 4) sc_sized.nd rfl (.inl rfl)) (pss_one (ps_set (i := 3) sc_sized.nd rfl (.inl rfl) (pe_op op_add (pe_op op_mul (pv 3) pe_int) (pe_call G_take (hr.mono (by decide)) (by rfl) T.g_take T.F_take.kp T.b_take .nil pass0 (pa_cons (pv 0) (pa_cons pe_int pa_nil))))))))) pss_nil)
 (pss_cons (ps_if (pt_cmpR op_eq (pe_call G_take (hr.mono (by decide)) (by rfl) T.g_take T.F_take.kp T.b_take .nil pass0 (pa_cons (pv 0) (pa_cons pe_int pa_nil))) pe_int (nomark _)) (pss_one (ps_ret (pe_un un_neg (pv 3)))) pss_nil)
 (pss_one (ps_ret (pv 3))))))))), ?_⟩
    refine Z.w_start (σ' := [some (.ref q), some (.int n), none, none, none]) rfl ?_
    walk_at "w"
    walk_at "wi"
    · walk_at "w"
      walk_at "wi" <;> walk_at "w" <;> exact hq _ _ (by omega) (by omega) (by assumption)
    · walk_at "w"
      walk_at "wi"
      · walk_at "w"
        walk_at "wi" <;> walk_at "w" <;> exact hq _ _ (by omega) (by omega) (by assumption)
      · walk_at "w"
        walk_at "wi"
        · walk_at "w"
          refine ⟨by omega, by omega, ?_⟩
          refine for_range (lo := 0) (n := n) (fun i σ H' => ∃ (t : Int) (o' : HO) (x2 x4 : Option V), σ = [some (.ref q), some (.int n), x2, some (.int t), x4] ∧ H' = upd H q o' ∧ IsPool o' ∧ 0 ≤ t ∧ t < 1000000 ^ i) ?_ ?_ ?_
          · exact ⟨0, _, _, _, rfl, rfl, by assumption, by omega, by omega⟩
          · rintro i σ H' hi ⟨t, o1, x2, x4, rfl, rfl, hp1, ht, ht2⟩
            walk_at "w"
            refine ⟨_, _, _, _, rfl, rfl, by assumption, by omega, ?_⟩
            rw [Int.pow_succ]
            omega
          · rintro σ H' ⟨t, o1, x2, x4, rfl, rfl, hp1, ht, ht2⟩
            have h18 : t < 10 ^ 18 := by
              rcases (show n = 0 ∨ n = 1 ∨ n = 2 ∨ n = 3 by omega) with rfl | rfl | rfl | rfl <;> omega
            walk_at "w"
            walk_at "wi" <;> walk_at "w" <;> exact hq _ _ (by omega) (by omega) (by assumption)
        · walk_at "w"
          walk_at "wi" <;> walk_at "w" <;> exact hq _ _ (by omega) (by omega) (by assumption)
theorem use_sized {q : Addr} {o : HO} {n : Int} {H : Hp} {Q : VK} {E : XK} (h : H q = some o) (hp : IsPool o) (h1 : 0 ≤ n) (h2 : n ≤ 3) (hq : ∀ r o', -(10 ^ 18 : Int) < r → r < 10 ^ 18 → IsPool o' → Q (.int r) (upd H q o')) : spSized [.ref q, .int n] H Q E := ⟨q, o, n, rfl, h, hp, h1, h2, hq⟩
theorem use_sizedU {q : Addr} {o : HO} {n : Int} {H : Hp} {Q : VK} {E : XK} (hp : IsPool o) (h1 : 0 ≤ n) (h2 : n ≤ 3) (hq : ∀ r o', -(10 ^ 18 : Int) < r → r < 10 ^ 18 → IsPool o' → Q (.int r) (upd H q o')) : spSized [.ref q, .int n] (upd H q o) Q E := ⟨q, o, n, rfl, upd_same, hp, h1, h2, fun r o' a b c => by rw [upd_upd]; exact hq r o' a b c⟩
end
end L

namespace M
theorem mulb {a b : Int} (h1 : -(2 ^ 20) ≤ a) (h2 : a ≤ 2 ^ 20) (h3 : -(2 ^ 60) < b) (h4 : b < 2 ^ 60) : -(2 ^ 90) < a * b ∧ a * b < 2 ^ 90 := by
  have ha : a.natAbs ≤ 2 ^ 20 := by omega
  have hb : b.natAbs ≤ 2 ^ 60 := by omega
  have h := Nat.mul_le_mul ha hb
  rw [← Int.natAbs_mul] at h
  omega
theorem bits_lt (b : Nat) : b < 2 ^ PySem.Builtin.Int.intBits (b : Int) := by
  unfold PySem.Builtin.Int.intBits
  by_cases h : b = 0
  · subst h; decide
  · have e : ((b : Int) == 0) = false := by
      simp only [beq_eq_false_iff_ne]
      omega
    rw [e]
    simp only [Bool.false_eq_true, if_false, Int.natAbs_natCast]
    exact Nat.lt_log2_self
theorem half {x y : Nat} (h : y < x) (hy : 0 < y) : 2 * (x % y) < x := by
  have h1 := Nat.mod_lt x hy
  have h2 := Nat.div_add_mod x y
  have h3 : 1 ≤ x / y := (Nat.le_div_iff_mul_le hy).mpr (by omega)
  have h4 : y * 1 ≤ y * (x / y) := Nat.mul_le_mul_left y h3
  omega
/-- Euclid's pairs: A, B the first, L bits of B, i turns -/
def Eu (A B L i x y : Nat) : Prop := Nat.gcd x y = Nat.gcd A B ∧ (i = 0 → x = A ∧ y = B) ∧ (1 ≤ i → y < x ∧ x * y * 2 ^ (i - 1) < 2 ^ (2 * L))
theorem eu_zero (A B L : Nat) : Eu A B L 0 A B := ⟨rfl, fun _ => ⟨rfl, rfl⟩, fun h => by omega⟩
theorem eu_next {A B L i x y : Nat} (hB : B < 2 ^ L) (h : Eu A B L i x y) (hy : y ≠ 0) : Eu A B L (i + 1) y (x % y) := by
  obtain ⟨g, h0, h1⟩ := h
  have hy' : 0 < y := by omega
  have hm := Nat.mod_lt x hy'
  refine ⟨?_, fun z => by omega, fun _ => ⟨hm, ?_⟩⟩
  · rw [← g, Nat.gcd_comm x y, Nat.gcd_rec y x]
    exact (Nat.gcd_comm _ _)
  · show y * (x % y) * 2 ^ (i + 1 - 1) < 2 ^ (2 * L)
    rw [Nat.add_sub_cancel]
    by_cases hi : i = 0
    · obtain ⟨rfl, rfl⟩ := h0 hi
      subst hi
      have e : 2 ^ (2 * L) = 2 ^ L * 2 ^ L := by rw [Nat.two_mul, Nat.pow_add]
      rw [e, Nat.pow_zero, Nat.mul_one]
      exact Nat.mul_lt_mul'' hB (by omega)
    · obtain ⟨hlt, hb⟩ := h1 (by omega)
      have hh := half hlt hy'
      have e : 2 ^ i = 2 * 2 ^ (i - 1) := by
        rw [show i = (i - 1) + 1 by omega, Nat.pow_succ, Nat.mul_comm]
        simp
      rw [e]
      have h5 : y * (x % y) * (2 * 2 ^ (i - 1)) = (2 * (x % y)) * y * 2 ^ (i - 1) := by
        simp only [Nat.mul_comm, Nat.mul_left_comm, Nat.mul_assoc]
      rw [h5]
      refine Nat.lt_of_le_of_lt ?_ hb
      exact Nat.mul_le_mul_right _ (Nat.mul_le_mul_right _ (by omega))
theorem eu_end {A B L i x y : Nat} (hi : i = 2 * L + 5) (h : Eu A B L i x y) : y = 0 := by
  obtain ⟨_, _, h1⟩ := h
  obtain ⟨hlt, hb⟩ := h1 (by omega)
  by_cases hy : y = 0
  · exact hy
  · exfalso
    have h2 : 1 ≤ x * y := Nat.mul_pos (by omega) (by omega)
    have h3 : 2 ^ (2 * L) ≤ 2 ^ (i - 1) := Nat.pow_le_pow_right (by decide) (by omega)
    have h4 : 1 * 2 ^ (i - 1) ≤ x * y * 2 ^ (i - 1) := Nat.mul_le_mul_right _ h2
    omega
theorem eu_gcd {A B L i x : Nat} (h : Eu A B L i x 0) : x = Nat.gcd A B := by
  have := h.1
  rw [Nat.gcd_zero_right] at this
  exact this
/-- what ratio makes of p / q -/
def RatOf (p q a b : Int) : Prop := 1 ≤ b ∧ Nat.gcd a.natAbs b.natAbs = 1 ∧ a * q = p * b ∧ a.natAbs ≤ p.natAbs ∧ b.natAbs ≤ q.natAbs
theorem rat_pos {p q : Int} (hq : 0 < q) : RatOf p q (p / ((Nat.gcd p.natAbs q.natAbs : Nat) : Int)) (q / ((Nat.gcd p.natAbs q.natAbs : Nat) : Int)) := by
  generalize hg : Nat.gcd p.natAbs q.natAbs = g
  have g0 : 0 < g := by rw [← hg]; exact Nat.gcd_pos_of_pos_right _ (by omega)
  have d1 : (g : Int) ∣ p := by
    rw [← hg]
    exact Int.ofNat_dvd_left.mpr (Nat.gcd_dvd_left _ _)
  have d2 : (g : Int) ∣ q := by
    rw [← hg]
    exact Int.ofNat_dvd_left.mpr (Nat.gcd_dvd_right _ _)
  obtain ⟨a, ha⟩ := d1
  obtain ⟨b, hb⟩ := d2
  have gz : (g : Int) ≠ 0 := by omega
  have e1 : p / (g : Int) = a := by rw [ha]; exact Int.mul_ediv_cancel_left _ gz
  have e2 : q / (g : Int) = b := by rw [hb]; exact Int.mul_ediv_cancel_left _ gz
  rw [e1, e2]
  have hbp : 0 < b := by
    rcases Int.lt_or_le 0 b with h | h
    · exact h
    · exfalso
      have : (g : Int) * b ≤ 0 := Int.mul_nonpos_of_nonneg_of_nonpos (by omega) h
      omega
  have np : p.natAbs = g * a.natAbs := by rw [ha, Int.natAbs_mul, Int.natAbs_natCast]
  have nq : q.natAbs = g * b.natAbs := by rw [hb, Int.natAbs_mul, Int.natAbs_natCast]
  refine ⟨by omega, ?_, ?_, ?_, ?_⟩
  · have h := hg
    rw [np, nq, Nat.gcd_mul_left] at h
    exact Nat.eq_of_mul_eq_mul_left g0 (by rw [h, Nat.mul_one])
  · rw [ha, hb]
    simp only [Int.mul_comm, Int.mul_left_comm, Int.mul_assoc]
  · rw [np]
    exact Nat.le_mul_of_pos_left _ g0
  · rw [nq]
    exact Nat.le_mul_of_pos_left _ g0
theorem rat_neg {p q : Int} (hq : q < 0) : RatOf p q (-p / ((Nat.gcd (-p).natAbs (-q).natAbs : Nat) : Int)) (-q / ((Nat.gcd (-p).natAbs (-q).natAbs : Nat) : Int)) := by
  obtain ⟨h1, h2, h3, h4, h5⟩ := rat_pos (p := -p) (q := -q) (by omega)
  refine ⟨h1, h2, ?_, by omega, by omega⟩
  rw [Int.mul_neg, Int.neg_mul] at h3
  exact Int.neg_inj.mp h3
end M

namespace MF
/-! ratios as pairs in lowest terms, forms as rows by node -/
abbrev P := Int × Int
def gg (p q : Int) : Int := ((Nat.gcd p.natAbs q.natAbs : Nat) : Int)
def red (p q : Int) : P := (p / gg p q, q / gg p q)
def Lw (a : P) : Prop := 0 < a.2 ∧ Nat.gcd a.1.natAbs a.2.natAbs = 1
def qv (a : P) : Rat := Rat.divInt a.1 a.2
theorem red_facts {p q : Int} (h : 0 < q) : Lw (red p q) ∧ (red p q).1 * q = p * (red p q).2 ∧ (red p q).1.natAbs ≤ p.natAbs ∧ (red p q).2.natAbs ≤ q.natAbs := by
  obtain ⟨h1, h2, h3, h4, h5⟩ := M.rat_pos (p := p) h
  exact ⟨⟨h1, h2⟩, h3, h4, h5⟩
theorem qv_red {p q : Int} (h : 0 < q) : qv (red p q) = Rat.divInt p q := by
  obtain ⟨⟨h1, _⟩, h2, _⟩ := red_facts (p := p) h
  exact (Rat.divInt_eq_divInt_iff (by omega) (by omega)).mpr h2
theorem qv_inj {a b : P} (ha : Lw a) (hb : Lw b) (h : qv a = qv b) : a = b := by
  obtain ⟨a1, a2⟩ := a
  obtain ⟨b1, b2⟩ := b
  obtain ⟨ha1, ha2⟩ := ha
  obtain ⟨hb1, hb2⟩ := hb
  dsimp only at *
  have e : a1 * b2 = b1 * a2 := (Rat.divInt_eq_divInt_iff (by omega) (by omega)).mp h
  have en : a1.natAbs * b2.natAbs = b1.natAbs * a2.natAbs := by rw [← Int.natAbs_mul, ← Int.natAbs_mul, e]
  have d1 : a2.natAbs ∣ b2.natAbs := by
    have : a2.natAbs ∣ a1.natAbs * b2.natAbs := ⟨b1.natAbs, by rw [en, Nat.mul_comm]⟩
    exact Nat.Coprime.dvd_of_dvd_mul_left (Nat.Coprime.symm ha2) this
  have d2 : b2.natAbs ∣ a2.natAbs := by
    have : b2.natAbs ∣ b1.natAbs * a2.natAbs := ⟨a1.natAbs, by rw [← en, Nat.mul_comm]⟩
    exact Nat.Coprime.dvd_of_dvd_mul_left (Nat.Coprime.symm hb2) this
  have e2 : a2 = b2 := by
    have := Nat.dvd_antisymm d1 d2
    omega
  subst e2
  have e1 : a1 = b1 := Int.eq_of_mul_eq_mul_right (by omega) e
  rw [e1]
def add (a b : P) : P := red (a.1 * b.2 + b.1 * a.2) (a.2 * b.2)
def mul (a b : P) : P := red (a.1 * b.1) (a.2 * b.2)
theorem lw_add {a b : P} (ha : Lw a) (hb : Lw b) : Lw (add a b) := (red_facts (Int.mul_pos ha.1 hb.1)).1
theorem lw_mul {a b : P} (ha : Lw a) (hb : Lw b) : Lw (mul a b) := (red_facts (Int.mul_pos ha.1 hb.1)).1
theorem qv_add {a b : P} (ha : Lw a) (hb : Lw b) : qv (add a b) = qv a + qv b := by
  unfold add
  rw [qv_red (Int.mul_pos ha.1 hb.1)]
  exact (Rat.divInt_add_divInt _ _ (by have := ha.1; omega) (by have := hb.1; omega)).symm
theorem qv_mul {a b : P} (ha : Lw a) (hb : Lw b) : qv (mul a b) = qv a * qv b := by
  unfold mul
  rw [qv_red (Int.mul_pos ha.1 hb.1)]
  exact (Rat.divInt_mul_divInt _ _).symm
theorem lw_zero : Lw (0, 1) := ⟨by decide, by decide⟩
theorem lw_int (k : Int) : Lw (k, 1) := ⟨(by decide : (0 : Int) < 1), Nat.gcd_one_right _⟩
theorem qv_zero : qv (0, 1) = 0 := by rfl
theorem zero_iff {a : P} (ha : Lw a) : a.1 = 0 ↔ a = (0, 1) := by
  constructor
  · intro h
    obtain ⟨a1, a2⟩ := a
    obtain ⟨h1, h2⟩ := ha
    dsimp only at *
    subst h
    rw [Int.natAbs_zero, Nat.gcd_zero_left] at h2
    have : a2 = 1 := by omega
    rw [this]
  · intro h
    rw [h]
theorem qv_ne {a : P} (ha : Lw a) (h : a.1 ≠ 0) : qv a ≠ 0 := fun z => h ((zero_iff ha).mpr (qv_inj ha lw_zero (z.trans qv_zero.symm)))
theorem add_zero {a : P} (ha : Lw a) : add a (0, 1) = a := qv_inj (lw_add ha lw_zero) ha (by rw [qv_add ha lw_zero, qv_zero]; exact Rat.add_zero _)
theorem zero_add {a : P} (ha : Lw a) : add (0, 1) a = a := qv_inj (lw_add lw_zero ha) ha (by rw [qv_add lw_zero ha, qv_zero]; exact Rat.zero_add _)
theorem add_comm {a b : P} : add a b = add b a := by
  unfold add
  rw [Int.add_comm, Int.mul_comm a.2 b.2]
theorem mul_zero_l {a : P} (ha : Lw a) : mul (0, 1) a = (0, 1) := qv_inj (lw_mul lw_zero ha) lw_zero (by rw [qv_mul lw_zero ha, qv_zero]; exact Rat.zero_mul _)
/-! rows by node, in any order, as a dict holds them -/
abbrev D := List (Int × P)
def get (d : D) (n : Int) : P := ((d.find? fun r => r.1 == n).map (·.2)).getD (0, 1)
def has (d : D) (n : Int) : Bool := d.any fun r => r.1 == n
def put (d : D) (n : Int) (c : P) : D := if has d n then d.map fun r => if r.1 == n then (n, c) else r else d ++ [(n, c)]
def AllLw (d : D) : Prop := ∀ r ∈ d, Lw r.2
theorem get_cons (r : Int × P) (d : D) (n : Int) : get (r :: d) n = if r.1 = n then r.2 else get d n := by
  unfold get
  rw [List.find?_cons]
  by_cases h : r.1 = n
  · simp [h]
  · have : (r.1 == n) = false := by simpa using h
    rw [this, if_neg h]
theorem has_cons (r : Int × P) (d : D) (n : Int) : has (r :: d) n = (decide (r.1 = n) || has d n) := by
  unfold has
  rw [List.any_cons]
  rfl
theorem get_no {d : D} {n : Int} (h : has d n = false) : get d n = (0, 1) := by
  induction d with
  | nil => rfl
  | cons r d ih =>
    rw [has_cons, Bool.or_eq_false_iff] at h
    rw [get_cons, if_neg (of_decide_eq_false h.1), ih h.2]
theorem lw_get {d : D} (h : AllLw d) (n : Int) : Lw (get d n) := by
  induction d with
  | nil => exact lw_zero
  | cons r d ih =>
    rw [get_cons]
    split
    · exact h r List.mem_cons_self
    · exact ih fun x hx => h x (List.mem_cons_of_mem _ hx)
theorem has_append (d e : D) (n : Int) : has (d ++ e) n = (has d n || has e n) := by
  unfold has
  rw [List.any_append]
theorem get_append_no {d : D} {n : Int} (h : has d n = false) (e : D) : get (d ++ e) n = get e n := by
  induction d with
  | nil => rfl
  | cons r d ih =>
    rw [has_cons, Bool.or_eq_false_iff] at h
    rw [List.cons_append, get_cons, if_neg (of_decide_eq_false h.1), ih h.2]
theorem get_append_yes {d : D} {n : Int} (h : has d n = true) (e : D) : get (d ++ e) n = get d n := by
  induction d with
  | nil => simp [has] at h
  | cons r d ih =>
    rw [List.cons_append, get_cons, get_cons]
    by_cases hr : r.1 = n
    · rw [if_pos hr, if_pos hr]
    · rw [has_cons, decide_eq_false hr, Bool.false_or] at h
      rw [if_neg hr, if_neg hr, ih h]
theorem get_map {d : D} {n : Int} {c : P} : ∀ m : Int, get (d.map fun r => if r.1 == n then (n, c) else r) m = if m = n ∧ has d n = true then c else get d m := by
  induction d with
  | nil => exact fun m => by simp [has]
  | cons r d ih =>
    intro m
    rw [List.map_cons, get_cons, get_cons, has_cons, ih m]
    by_cases hr : r.1 = n
    · have : (r.1 == n) = true := by simpa using hr
      rw [this, if_pos rfl, decide_eq_true hr, Bool.true_or]
      by_cases hm : m = n
      · subst hm
        rw [if_pos rfl, if_pos ⟨rfl, rfl⟩]
      · have hm2 : ¬ n = m := fun e => hm e.symm
        rw [if_neg hm2, if_neg (fun z => hm z.1), if_neg (fun z => hm z.1), if_neg (fun z => hm (z.symm.trans hr))]
    · have : (r.1 == n) = false := by simpa using hr
      simp only [this, Bool.false_eq_true, if_false, decide_eq_false hr, Bool.false_or]
      by_cases hrm : r.1 = m
      · simp only [hrm, if_true]
        rw [if_neg (fun z => hr (hrm.trans z.1))]
      · simp only [hrm, if_false]
theorem get_put (d : D) (n : Int) (c : P) (m : Int) : get (put d n c) m = if m = n then c else get d m := by
  unfold put
  cases h : has d n with
  | true =>
    rw [if_pos rfl, get_map, h]
    by_cases hm : m = n <;> simp [hm]
  | false =>
    rw [if_neg (by simp)]
    by_cases hm : m = n
    · subst hm
      rw [get_append_no h, if_pos rfl, get_cons, if_pos rfl]
    · rw [if_neg hm]
      cases h2 : has d m with
      | true => rw [get_append_yes h2]
      | false =>
        rw [get_append_no h2, get_cons, if_neg (fun e => hm e.symm), get_no h2]
        rfl
theorem has_put (d : D) (n : Int) (c : P) (m : Int) : has (put d n c) m = (decide (m = n) || has d m) := by
  have key : ∀ d : D, has (d.map fun r => if r.1 == n then (n, c) else r) m = has d m := by
    intro d
    induction d with
    | nil => rfl
    | cons r d ih =>
      rw [List.map_cons, has_cons, has_cons, ih]
      by_cases hr : r.1 = n
      · have : (r.1 == n) = true := by simpa using hr
        rw [this, if_pos rfl, hr]
      · have : (r.1 == n) = false := by simpa using hr
        rw [this, if_neg (by simp)]
  unfold put
  cases h : has d n with
  | true =>
    rw [if_pos rfl, key]
    by_cases hm : m = n
    · subst hm
      rw [h]
      simp
    · simp [hm]
  | false =>
    rw [if_neg (by simp), has_append, has_cons]
    by_cases hm : m = n
    · subst hm
      simp
    · have : ¬ n = m := fun e => hm e.symm
      simp [hm, this, has]
/-! the value -/
def Sv (v : Int → Rat) (d : D) : Rat := d.foldr (fun r a => qv r.2 * v r.1 + a) 0
theorem Sv_cons (v : Int → Rat) (r : Int × P) (d : D) : Sv v (r :: d) = qv r.2 * v r.1 + Sv v d := rfl
theorem Sv_append (v : Int → Rat) (d e : D) : Sv v (d ++ e) = Sv v d + Sv v e := by
  induction d with
  | nil => exact (Rat.zero_add _).symm
  | cons r d ih =>
    rw [List.cons_append, Sv_cons, Sv_cons, ih]
    grind
theorem Sv_perm {v : Int → Rat} {d e : D} (h : d.Perm e) : Sv v d = Sv v e := by
  induction h with
  | nil => rfl
  | cons r _ ih => rw [Sv_cons, Sv_cons, ih]
  | swap a b l =>
    rw [Sv_cons, Sv_cons, Sv_cons, Sv_cons]
    grind
  | trans _ _ ih1 ih2 => rw [ih1, ih2]
def ND (d : D) : Prop := (d.map (·.1)).Nodup
theorem has_mem {d : D} {n : Int} : has d n = true ↔ n ∈ d.map (·.1) := by
  unfold has
  rw [List.any_eq_true, List.mem_map]
  constructor
  · rintro ⟨r, h1, h2⟩
    exact ⟨r, h1, by simpa using h2⟩
  · rintro ⟨r, h1, h2⟩
    exact ⟨r, h1, by simpa using h2⟩
theorem keys_put (d : D) (n : Int) (c : P) : (put d n c).map (·.1) = if has d n then d.map (·.1) else d.map (·.1) ++ [n] := by
  unfold put
  cases h : has d n with
  | true =>
    rw [if_pos rfl, if_pos rfl, List.map_map]
    apply List.map_congr_left
    intro r _
    by_cases hr : r.1 = n
    · simp [hr]
    · simp [hr]
  | false => simp
theorem nd_put {d : D} (h : ND d) (n : Int) (c : P) : ND (put d n c) := by
  unfold ND at *
  rw [keys_put]
  cases hh : has d n with
  | true => exact h
  | false =>
    rw [if_neg (by simp)]
    refine List.nodup_append.mpr ⟨h, by simp, ?_⟩
    intro a ha b hb e
    rw [List.mem_singleton.mp hb] at e
    subst e
    rw [has_mem.mpr ha] at hh
    cases hh
theorem lw_put {d : D} (h : AllLw d) (n : Int) {c : P} (hc : Lw c) : AllLw (put d n c) := by
  unfold put
  intro r hr
  split at hr
  · obtain ⟨x, hx, e⟩ := List.mem_map.mp hr
    split at e
    · rw [← e]
      exact hc
    · rw [← e]
      exact h x hx
  · rcases List.mem_append.mp hr with z | z
    · exact h r z
    · rw [List.mem_singleton.mp z]
      exact hc
theorem Sv_put {v : Int → Rat} {d : D} (hd : ND d) (hl : AllLw d) (n : Int) {c : P} (hc : Lw c) : Sv v (put d n (add (get d n) c)) = Sv v d + qv c * v n := by
  unfold put
  cases h : has d n with
  | false =>
    rw [if_neg (by simp), Sv_append, Sv_cons, get_no h, zero_add hc]
    show _ + (qv c * v n + 0) = _
    grind
  | true =>
    rw [if_pos rfl]
    induction d with
    | nil => simp [has] at h
    | cons r d ih =>
      have hd' : ND d := (List.nodup_cons.mp (by exact hd)).2
      have hnr : r.1 ∉ d.map (·.1) := (List.nodup_cons.mp (by exact hd)).1
      have hl' : AllLw d := fun x hx => hl x (List.mem_cons_of_mem _ hx)
      rw [List.map_cons, Sv_cons, Sv_cons, get_cons]
      by_cases hr : r.1 = n
      · have hb : (r.1 == n) = true := by simpa using hr
        rw [if_pos hr, hb, if_pos rfl]
        have key : (d.map fun r_1 => if r_1.1 == n then (n, add r.2 c) else r_1) = d := by
          rw [List.map_congr_left (g := id), List.map_id]
          intro x hx
          have : x.1 ≠ n := fun e => hnr (by rw [hr, ← e]; exact List.mem_map_of_mem hx)
          simp [this]
        rw [key, qv_add (hl r List.mem_cons_self) hc, hr]
        grind
      · have hb : (r.1 == n) = false := by simpa using hr
        rw [if_neg hr, hb, if_neg (by simp)]
        rw [has_cons, decide_eq_false hr, Bool.false_or] at h
        rw [ih hd' hl' h]
        grind
def sumD (d g : D) : D := g.foldl (fun d r => put d r.1 (add (get d r.1) r.2)) d
theorem sumD_facts {g : D} : ∀ {d : D}, ND d → AllLw d → AllLw g → ND (sumD d g) ∧ AllLw (sumD d g) ∧ ∀ v, Sv v (sumD d g) = Sv v d + Sv v g := by
  induction g with
  | nil => exact fun h1 h2 _ => ⟨h1, h2, fun v => (Rat.add_zero _).symm⟩
  | cons r g ih =>
    intro d h1 h2 h3
    have hr := h3 r List.mem_cons_self
    obtain ⟨a, b, c⟩ := ih (d := put d r.1 (add (get d r.1) r.2)) (nd_put h1 _ _) (lw_put h2 _ (lw_add (lw_get h2 _) hr)) (fun x hx => h3 x (List.mem_cons_of_mem _ hx))
    refine ⟨a, b, fun v => ?_⟩
    have e : sumD d (r :: g) = sumD (put d r.1 (add (get d r.1) r.2)) g := rfl
    rw [e, c v, Sv_put h1 h2 _ hr, Sv_cons]
    grind
theorem sumD_get {g : D} : ∀ {d : D}, ND g → AllLw d → AllLw g → ∀ n, get (sumD d g) n = add (get d n) (get g n) := by
  induction g with
  | nil => exact fun _ h2 _ n => (add_zero (lw_get h2 n)).symm
  | cons r g ih =>
    intro d h1 h2 h3 n
    have hr := h3 r List.mem_cons_self
    have hnr : r.1 ∉ g.map (·.1) := (List.nodup_cons.mp (by exact h1)).1
    have e : sumD d (r :: g) = sumD (put d r.1 (add (get d r.1) r.2)) g := rfl
    rw [e, ih (List.nodup_cons.mp (by exact h1)).2 (lw_put h2 _ (lw_add (lw_get h2 _) hr)) (fun x hx => h3 x (List.mem_cons_of_mem _ hx)) n, get_put, get_cons]
    by_cases hn : n = r.1
    · have hg : has g r.1 = false := Bool.eq_false_iff.mpr fun z => hnr (has_mem.mp z)
      rw [hn, if_pos rfl, if_pos rfl, get_no hg, add_zero (lw_add (lw_get h2 _) hr)]
    · rw [if_neg hn, if_neg (fun z => hn z.symm)]
/-! the rows of a form -/
def Rows (d rows : D) : Prop := (rows.map (·.1)).Pairwise (· < ·) ∧ ∀ n c, (n, c) ∈ rows ↔ (c = get d n ∧ c.1 ≠ 0)
theorem asc_ext : ∀ {a b : D}, (a.map (·.1)).Pairwise (· < ·) → (b.map (·.1)).Pairwise (· < ·) → (∀ r, r ∈ a ↔ r ∈ b) → a = b
  | [], [], _, _, _ => rfl
  | [], r :: b, _, _, h => absurd ((h r).mpr List.mem_cons_self) (by simp)
  | r :: a, [], _, _, h => absurd ((h r).mp List.mem_cons_self) (by simp)
  | r :: a, s :: b, ha, hb, h => by
    rw [List.map_cons, List.pairwise_cons] at ha hb
    have e : r = s := by
      rcases List.mem_cons.mp ((h r).mp List.mem_cons_self) with e | h1
      · exact e
      · rcases List.mem_cons.mp ((h s).mpr List.mem_cons_self) with e | h2
        · exact e.symm
        · have k1 := hb.1 r.1 (List.mem_map_of_mem h1)
          have k2 := ha.1 s.1 (List.mem_map_of_mem h2)
          omega
    subst e
    rw [asc_ext ha.2 hb.2 fun x => ?_]
    constructor
    · intro hx
      rcases List.mem_cons.mp ((h x).mp (List.mem_cons_of_mem _ hx)) with e | z
      · subst e
        have := ha.1 x.1 (List.mem_map_of_mem hx)
        omega
      · exact z
    · intro hx
      rcases List.mem_cons.mp ((h x).mpr (List.mem_cons_of_mem _ hx)) with e | z
      · subst e
        have := hb.1 x.1 (List.mem_map_of_mem hx)
        omega
      · exact z
theorem rows_uniq {d e a b : D} (h : ∀ n, get d n = get e n) (ha : Rows d a) (hb : Rows e b) : a = b :=
  asc_ext ha.1 hb.1 fun ⟨n, c⟩ => by rw [ha.2 n c, hb.2 n c, h n]
/-- sorted nodes, the zero ones left out -/
theorem rows_mk {d : D} {ns : List Int} (hs : ns.Pairwise (· < ·)) (hm : ∀ n, n ∈ ns ↔ has d n = true) : Rows d ((ns.filter fun n => decide ((get d n).1 ≠ 0)).map fun n => (n, get d n)) := by
  refine ⟨?_, fun n c => ?_⟩
  · rw [List.map_map]
    have e : ((fun r : Int × P => r.1) ∘ fun n => (n, get d n)) = id := rfl
    rw [e, List.map_id]
    exact hs.filter _
  · rw [List.mem_map]
    constructor
    · rintro ⟨m, hm1, e⟩
      obtain ⟨e1, e2⟩ := Prod.mk.inj e
      subst e1
      exact ⟨e2.symm, by rw [← e2]; exact of_decide_eq_true (List.mem_filter.mp hm1).2⟩
    · rintro ⟨e, h0⟩
      refine ⟨n, List.mem_filter.mpr ⟨(hm n).mpr ?_, decide_eq_true (by rw [← e]; exact h0)⟩, by rw [e]⟩
      cases hh : has d n with
      | true => rfl
      | false =>
        rw [get_no hh] at e
        exact absurd (by rw [e]) h0
end MF

namespace L
open PySem PySem.Spec PyProof.Rows L2 Z M MF DT
/-! heaps: what stays -/
/-- all but lists stay -/
def Mo (H H' : Hp) : Prop := ∀ b x, (∀ l, x ≠ HO.lst l) → H b = some x → H' b = some x
/-- all but lists and dicts stay -/
def Tu (H H' : Hp) : Prop := ∀ b x, (∀ l, x ≠ HO.lst l) → (∀ l, x ≠ HO.dK l) → H b = some x → H' b = some x
section
variable {H H' H1 H2 : Hp} {p q d : Addr} {o : HO}
theorem Mo.refl (H : Hp) : Mo H H := fun _ _ _ e => e
theorem Mo.trans (a : Mo H H1) (b : Mo H1 H2) : Mo H H2 := fun c x n e => b c x n (a c x n e)
theorem Mo.of (s : Same H H') : Mo H H' := fun b x _ e => s b x e
theorem Mo.new (m : Mo H H') (h : H' p = none) : Mo H (upd H' p o) := fun b x n e => by
  rw [upd_ne (ne_of_none (m b x n e) h)]
  exact m b x n e
theorem Mo.own (m : Mo H H') (h : H p = none) : Mo H (upd H' p o) := fun b x n e => by
  rw [upd_ne (ne_of_none e h)]
  exact m b x n e
theorem Mo.lst {l : List V} (m : Mo H H') (h : H p = some (.lst l)) : Mo H (upd H' p o) := fun b x n e => by
  rw [upd_ne (fun z => by subst z; rw [h] at e; exact n _ (Option.some.inj e).symm)]
  exact m b x n e
theorem Tu.of (m : Mo H H') : Tu H H' := fun b x n _ e => m b x n e
theorem Tu.ofS (m : Same H H') : Tu H H' := fun b x _ _ e => m b x e
theorem Tu.trans (a : Tu H H1) (b : Tu H1 H2) : Tu H H2 := fun c x n n2 e => b c x n n2 (a c x n n2 e)
theorem Tu.dict {kvs : List (Key × V)} (h : H d = some (.dK kvs)) : Tu H (upd H d o) := fun b x n n2 e => by
  rw [upd_ne (fun z => by subst z; rw [h] at e; exact n2 _ (Option.some.inj e).symm)]
  exact e
def PoolAt (H : Hp) (q : Addr) : Prop := ∃ o, H q = some o ∧ IsPool o
structure PX (q : Addr) (H H' : Hp) : Prop where
  mo : Mo H H'
  pl : PoolAt H' q
  sx : ∀ b x, b ≠ q → H b = some x → H' b = some x
theorem PX.trans (a : PX q H H1) (b : PX q H1 H2) : PX q H H2 := ⟨a.1.trans b.1, b.2, fun c x n e => b.3 c x n (a.3 c x n e)⟩
theorem PoolAt.same (h : PoolAt H q) (s : Same H H') : PoolAt H' q := by
  obtain ⟨o, h1, h2⟩ := h
  exact ⟨o, s _ _ h1, h2⟩
theorem PX.same (a : PX q H H1) (b : Same H1 H2) : PX q H H2 := ⟨a.1.trans (.of b), a.2.same b, fun c x n e => b c x (a.3 c x n e)⟩
theorem PX.refl (h : PoolAt H q) : PX q H H := ⟨.refl H, h, fun _ _ _ e => e⟩
theorem PX.new (a : PX q H H1) (h : H1 p = none) : PX q H (upd H1 p o) := a.same (same_of (Same.refl _) h)
theorem PX.take (h : PoolAt H q) (hp : IsPool o) : PX q H (upd H q o) := by
  obtain ⟨o', h1, c, k, b, s, rfl⟩ := h
  exact ⟨(Mo.refl H).lst h1, ⟨o, upd_same, hp⟩, fun b x n e => by rw [upd_ne n]; exact e⟩
theorem PX.dict (a : PX q H H1) {kvs : List (Key × V)} {o2 : HO} (h : H d = none) (h1 : H1 d = some (.dK kvs)) (e : o2 = o2) : PX q H (upd H1 d o2) := by
  refine ⟨a.1.own h, ?_, fun b x n e => by rw [upd_ne (ne_of_none e h)]; exact a.3 b x n e⟩
  obtain ⟨o', h2, hp⟩ := a.2
  refine ⟨o', ?_, hp⟩
  rw [upd_ne]
  · exact h2
  · rintro rfl
    rw [h2] at h1
    obtain ⟨c, k, b, s, rfl⟩ := hp
    cases h1
theorem PX.own (h : H q = none) (a : PX q (upd H q o) H') : Same H H' := fun b x e => a.3 b x (ne_of_none e h) (by rw [upd_ne (ne_of_none e h)]; exact e)
end
section
variable {K : PySem.W.Frag} {H H' : Hp}
theorem sqT_tu {a : Addr} {xs : List V} (h : SqT K H a xs) (s : Tu H H') : SqT K H' a xs := by
  rcases h with (h | ⟨o, h⟩) | h
  · exact .inl (.inl (s _ _ (fun l e => by cases e) (fun l e => by cases e) h))
  · exact .inl (.inr ⟨o, s _ _ (fun l e => by cases e) (fun l e => by cases e) h⟩)
  · exact .inr h
def tupP (a : MF.P) : HO := .tup [.int a.1, .int a.2]
def Rt (K : PySem.W.Frag) (H : Hp) (t : Addr) (a : MF.P) : Prop := SqT K H t [.int a.1, .int a.2]
def RtV (K : PySem.W.Frag) (H : Hp) (v : V) (a : MF.P) : Prop := ∃ t, v = .ref t ∧ Rt K H t a
def RowV (K : PySem.W.Frag) (H : Hp) (v : V) (r : Int × MF.P) : Prop := ∃ t c, v = .ref t ∧ SqT K H t [.int r.1, .ref c] ∧ Rt K H c r.2
def RowsV (K : PySem.W.Frag) (H : Hp) (vs : List V) (d : MF.D) : Prop := PySem.Paired (RowV K H) vs d
def Fm (K : PySem.W.Frag) (H : Hp) (t : Addr) (c : MF.P) (d : MF.D) : Prop := ∃ tc tr vs, SqT K H t [.ref tc, .ref tr] ∧ Rt K H tc c ∧ SqT K H tr vs ∧ RowsV K H vs d
def FmZ (K : PySem.W.Frag) (H : Hp) (t : Addr) (c : MF.P) (d : MF.D) : Prop := ∃ tc tr vs o, SqT K H t [.ref tc, .ref tr] ∧ Rt K H tc c ∧ H tr = some (.frz o (.tup vs)) ∧ Bare o ∧ RowsV K H vs d
theorem Rt.tu {t : Addr} {a : MF.P} (h : Rt K H t a) (s : Tu H H') : Rt K H' t a := sqT_tu h s
theorem RtV.tu {v : V} {a : MF.P} (h : RtV K H v a) (s : Tu H H') : RtV K H' v a := by
  obtain ⟨t, e, h⟩ := h
  exact ⟨t, e, h.tu s⟩
theorem RowV.tu {v : V} {r : Int × MF.P} (h : RowV K H v r) (s : Tu H H') : RowV K H' v r := by
  obtain ⟨t, c, e, h1, h2⟩ := h
  exact ⟨t, c, e, sqT_tu h1 s, h2.tu s⟩
theorem RowsV.tu {vs : List V} {d : MF.D} (h : RowsV K H vs d) (s : Tu H H') : RowsV K H' vs d := Paired.mapP h fun _ _ h => h.tu s
theorem Fm.tu {t : Addr} {c : MF.P} {d : MF.D} (h : Fm K H t c d) (s : Tu H H') : Fm K H' t c d := by
  obtain ⟨tc, tr, vs, h1, h2, h3, h4⟩ := h
  exact ⟨tc, tr, vs, sqT_tu h1 s, h2.tu s, sqT_tu h3 s, h4.tu s⟩
theorem FmZ.tu {t : Addr} {c : MF.P} {d : MF.D} (h : FmZ K H t c d) (s : Tu H H') : FmZ K H' t c d := by
  obtain ⟨tc, tr, vs, o, h1, h2, h3, h4, h5⟩ := h
  exact ⟨tc, tr, vs, o, sqT_tu h1 s, h2.tu s, s _ _ (fun l e => by cases e) (fun l e => by cases e) h3, h4, h5.tu s⟩
theorem FmZ.fm {t : Addr} {c : MF.P} {d : MF.D} (h : FmZ K H t c d) : Fm K H t c d := by
  obtain ⟨tc, tr, vs, o, h1, h2, h3, h4, h5⟩ := h
  exact ⟨tc, tr, vs, h1, h2, .inl (.inr ⟨o, h3⟩), h5⟩
theorem Rt.new {H0 : Hp} {t : Addr} {a : MF.P} : Rt K (upd H0 t (tupP a)) t a := .inl (.inl upd_same)
theorem RowsV.len {vs : List V} {d : MF.D} (h : RowsV K H vs d) : vs.length = d.length := PySem.Paired.length h
theorem RowsV.get : ∀ {vs : List V} {d : MF.D} {i : Nat} {x : V}, RowsV K H vs d → vs[i]? = some x → ∃ r, d[i]? = some r ∧ RowV K H x r
  | _, _, i, x, .nil, e => by simp at e
  | _, _, 0, x, .cons h t, e => by
    simp only [List.getElem?_cons_zero, Option.some.injEq] at e
    subst e
    exact ⟨_, rfl, h⟩
  | _, _, i + 1, x, .cons h t, e => by
    rw [List.getElem?_cons_succ] at e
    obtain ⟨r, h1, h2⟩ := RowsV.get (i := i) t e
    exact ⟨r, by rw [List.getElem?_cons_succ]; exact h1, h2⟩
/-! dicts of ratios -/
def KvR (K : PySem.W.Frag) (H : Hp) (kv : Key × V) (r : Int × MF.P) : Prop := kv.1 = Sum.inl r.1 ∧ RtV K H kv.2 r.2
def DictAt (K : PySem.W.Frag) (H : Hp) (d : Addr) (D : MF.D) : Prop := ∃ kvs, H d = some (.dK kvs) ∧ PySem.Paired (KvR K H) kvs D
theorem KvR.tu {kv : Key × V} {r : Int × MF.P} (h : KvR K H kv r) (s : Tu H H') : KvR K H' kv r := ⟨h.1, h.2.tu s⟩
theorem DictAt.mo {d : Addr} {D : MF.D} (h : DictAt K H d D) (s : Mo H H') : DictAt K H' d D := by
  obtain ⟨kvs, h1, h2⟩ := h
  exact ⟨kvs, s _ _ (fun l e => by cases e) h1, Paired.mapP h2 fun _ _ h => h.tu (.of s)⟩
theorem DictAt.nil {H0 : Hp} {d : Addr} : DictAt K (upd H0 d (.dK [])) d [] := ⟨[], upd_same, .nil⟩
theorem kv_any : ∀ {kvs : List (Key × V)} {D : MF.D} (n : Int), PySem.Paired (KvR K H) kvs D → (kvs.any fun kv => decide (kv.1 = Sum.inl n)) = has D n
  | _, _, n, .nil => rfl
  | _, _, n, .cons (a := a) (b := b) h t => by
    rw [List.any_cons, has_cons, kv_any n t, h.1]
    have e : decide ((Sum.inl b.1 : Key) = Sum.inl n) = decide (b.1 = n) := by
      by_cases z : b.1 = n
      · rw [z]; simp
      · have : ¬ (Sum.inl b.1 : Key) = Sum.inl n := fun k => z (Sum.inl.inj k)
        rw [decide_eq_false z, decide_eq_false this]
    rw [e]
theorem kv_get : ∀ {kvs : List (Key × V)} {D : MF.D} (n : Int), PySem.Paired (KvR K H) kvs D → (has D n = true → ∃ t, valV kvs (Sum.inl n) = some (V.ref t) ∧ Rt K H t (MF.get D n)) ∧ (has D n = false → valV kvs (Sum.inl n) = none)
  | _, _, n, .nil => ⟨(fun h => by cases h), fun _ => rfl⟩
  | _, _, n, .cons (a := a) (b := b) h t => by
    obtain ⟨h1, h2⟩ := kv_get n t
    by_cases z : b.1 = n
    · refine ⟨fun _ => ?_, fun k => ?_⟩
      · obtain ⟨t', e, r⟩ := h.2
        exact ⟨t', by rw [valV_pos (h.1.trans (by rw [z])), e], by rw [get_cons, if_pos z]; exact r⟩
      · rw [has_cons, decide_eq_true z] at k
        cases k
    · have hz : ¬ a.1 = Sum.inl n := fun k => z (Sum.inl.inj (h.1.symm.trans k))
      refine ⟨fun k => ?_, fun k => ?_⟩
      · rw [has_cons, decide_eq_false z, Bool.false_or] at k
        obtain ⟨t', e, r⟩ := h1 k
        exact ⟨t', by rw [valV_neg hz, e], by rw [get_cons, if_neg z]; exact r⟩
      · rw [has_cons, decide_eq_false z, Bool.false_or] at k
        rw [valV_neg hz, h2 k]
theorem kv_map {v : V} {c : MF.P} {n : Int} (hv : RtV K H v c) : ∀ {kvs : List (Key × V)} {D : MF.D}, PySem.Paired (KvR K H) kvs D →
    PySem.Paired (KvR K H) (kvs.map fun kv => if kv.1 = Sum.inl n then (kv.1, v) else kv) (D.map fun r => if r.1 == n then (n, c) else r)
  | _, _, .nil => .nil
  | _, _, .cons (a := a) (b := b) h t => by
    rw [List.map_cons, List.map_cons]
    refine .cons ?_ (kv_map hv t)
    by_cases z : b.1 = n
    · rw [if_pos (h.1.trans (by rw [z])), if_pos (by simpa using z)]
      exact ⟨h.1.trans (by rw [z]), hv⟩
    · have hz : ¬ a.1 = Sum.inl n := fun k => z (Sum.inl.inj (h.1.symm.trans k))
      rw [if_neg hz, if_neg (by simpa using z)]
      exact h
theorem kv_put {v : V} {c : MF.P} {n : Int} (hv : RtV K H v c) {kvs : List (Key × V)} {D : MF.D} (h : PySem.Paired (KvR K H) kvs D) : PySem.Paired (KvR K H) (putK kvs (Sum.inl n) v) (put D n c) := by
  unfold putK put
  rw [kv_any n h]
  cases has D n with
  | true =>
    rw [if_pos rfl, if_pos rfl]
    exact kv_map hv h
  | false =>
    rw [if_neg (by simp), if_neg (by simp)]
    exact PySem.Paired.snoc h ⟨rfl, hv⟩
def mergeD (acc d : MF.D) : MF.D := d.foldl (fun D r => put D r.1 r.2) acc
theorem kv_merge : ∀ {more kvs : List (Key × V)} {d D : MF.D}, PySem.Paired (KvR K H) more d → PySem.Paired (KvR K H) kvs D → PySem.Paired (KvR K H) (mergeK kvs more) (mergeD D d)
  | _, kvs, _, D, .nil, h => h
  | _, kvs, _, D, .cons (a := a) (b := b) h t, h0 => by
    have e : putK kvs a.1 a.2 = putK kvs (Sum.inl b.1) a.2 := by rw [h.1]
    show PySem.Paired (KvR K H) (mergeK (putK kvs a.1 a.2) _) (mergeD (put D b.1 b.2) _)
    rw [e]
    exact kv_merge t (kv_put h.2 h0)
theorem mergeD_nd : ∀ {d acc : MF.D}, ND (acc ++ d) → mergeD acc d = acc ++ d
  | [], acc, _ => (List.append_nil acc).symm
  | r :: d, acc, h => by
    have hn : has acc r.1 = false := Bool.eq_false_iff.mpr fun z => by
      have hm := has_mem.mp z
      unfold ND at h
      rw [List.map_append, List.nodup_append] at h
      exact h.2.2 _ hm _ (by rw [List.map_cons]; exact List.mem_cons_self) rfl
    show mergeD (put acc r.1 r.2) d = _
    have e : put acc r.1 r.2 = acc ++ [r] := by
      unfold put
      rw [hn, if_neg (by simp)]
    rw [e, mergeD_nd (by rw [List.append_assoc]; exact h), List.append_assoc]
    rfl
theorem mergeD_self {d : MF.D} (h : ND d) : mergeD [] d = d := mergeD_nd h
/-- the pairs of a tuple of rows -/
theorem rows_pairs : ∀ {vs : List V} {d : MF.D}, RowsV K H vs d → ∃ (ps : List Addr) (kvs : List (Key × V)), vs = ps.map V.ref ∧ PySem.Paired (fun p (kv : Key × V) => SqT K H p [kV kv.1, kv.2]) ps kvs ∧ PySem.Paired (KvR K H) kvs d
  | _, _, .nil => ⟨[], [], rfl, .nil, .nil⟩
  | _, _, .cons (a := a) (b := b) h t => by
    obtain ⟨ps, kvs, e, h1, h2⟩ := rows_pairs t
    obtain ⟨t', c, rfl, h3, h4⟩ := h
    exact ⟨t' :: ps, (Sum.inl b.1, .ref c) :: kvs, by rw [List.map_cons, e], .cons h3 h1, .cons ⟨rfl, c, rfl, h4⟩ h2⟩
theorem w_dget {d : Addr} {D : MF.D} {n : Int} {Q : V → Prop} (h : DictAt K H d D) (hh : has D n = true) (q : ∀ t, Rt K H t (MF.get D n) → Q (.ref t)) : ∃ a v, V.ref d = .ref a ∧ DGet H a (.int n) (some v) ∧ Q v := by
  obtain ⟨kvs, h1, h2⟩ := h
  obtain ⟨t, e, r⟩ := (kv_get n h2).1 hh
  exact ⟨d, _, rfl, by rw [← e]; exact DGet.k (k := Sum.inl n) h1, q t r⟩
theorem w_dget2 {d z : Addr} {D : MF.D} {n : Int} {R : Option V → Prop} (h : DictAt K H d D) (hz : Rt K H z (0, 1)) (q : ∀ o t, o.getD (V.ref z) = V.ref t → Rt K H t (MF.get D n) → R o) : ∃ o, DGet H d (.int n) o ∧ R o := by
  obtain ⟨kvs, h1, h2⟩ := h
  refine ⟨_, DGet.k (k := Sum.inl n) h1, ?_⟩
  cases hh : has D n with
  | true =>
    obtain ⟨t, e, r⟩ := (kv_get n h2).1 hh
    rw [e]
    exact q _ t rfl r
  | false =>
    rw [(kv_get n h2).2 hh]
    exact q _ z rfl (by rw [get_no hh]; exact hz)
theorem w_dput {d : Addr} {D : MF.D} {n : Int} {v : V} {c : MF.P} {R : Hp → Prop} (h : DictAt K H d D) (hl : D.length < 1000) (hv : RtV K H v c) (q : ∀ kvs o, H d = some (.dK kvs) → DictAt K (upd H d o) d (put D n c) → R (upd H d o)) : ∃ a H4, V.ref d = .ref a ∧ DPut H a (.int n) v H4 ∧ R H4 := by
  obtain ⟨kvs, h1, h2⟩ := h
  have hk : kvs.length < sizeLine := by
    rw [PySem.Paired.length h2]
    exact Nat.lt_trans hl (by decide)
  refine ⟨d, _, rfl, DPut.k (k := Sum.inl n) h1 hk, q kvs _ h1 ⟨_, upd_same, ?_⟩⟩
  exact Paired.mapP (kv_put hv h2) fun _ _ h => h.tu (Tu.dict h1)
theorem w_tdget {td ty : TE} {σ : L2.St} {Q : VK} (h : td σ H fun x H1 => ty σ H1 fun y H2 => ∃ a v, x = .ref a ∧ DGet H2 a y (some v) ∧ Q v H2) : tDGet td ty σ H Q := h
theorem w_tdget2 {td ty tx : TE} {σ : L2.St} {Q : VK} (h : td σ H fun x H1 => ∃ a, x = .ref a ∧ IsD H1 a ∧ ty σ H1 fun y H2 => tx σ H2 fun z H3 => ∃ o, DGet H3 a y o ∧ Q (o.getD z) H3) : tDGet2 td ty tx σ H Q := h
theorem seqIf {tt : TT} {t t' u : TS} {D : Ends} {σ : L2.St} (k : L2.St → Hp → Prop) (h : ∀ R : L2.St → Hp → Prop, (∀ σ' H', k σ' H' → R σ' H') → tIfS tt t t' { D with nx := R } σ H) (hk : ∀ σ' H', k σ' H' → u D σ' H') : tSeq (tIfS tt t t') u D σ H := h (u D) hk
theorem isD {d : Addr} {D : MF.D} (h : DictAt K H d D) : IsD H d := by
  obtain ⟨kvs, h1, h2⟩ := h
  exact .inl ⟨kvs, .inl h1⟩
end
end L

namespace L
open PySem PySem.Spec PyProof.Rows L2 Z M MF DT
/-! bounds -/
def Bd (n : Nat) (a : MF.P) : Prop := Lw a ∧ a.1.natAbs < 2 ^ n ∧ a.2.natAbs < 2 ^ n
theorem Bd.mono {n m : Nat} {a : MF.P} (h : Bd n a) (l : n ≤ m) : Bd m a := ⟨h.1, Nat.lt_of_lt_of_le h.2.1 (Nat.pow_le_pow_right (by decide) l), Nat.lt_of_lt_of_le h.2.2 (Nat.pow_le_pow_right (by decide) l)⟩
theorem bd_red {n : Nat} {p q : Int} (h0 : 0 < q) (hp : p.natAbs < 2 ^ n) (hq : q.natAbs < 2 ^ n) : Bd n (red p q) := by
  obtain ⟨a, _, c, d⟩ := red_facts (p := p) h0
  exact ⟨a, Nat.lt_of_le_of_lt c hp, Nat.lt_of_le_of_lt d hq⟩
theorem add_bits {n m : Nat} {a b : MF.P} (ha : Bd n a) (hb : Bd m b) : 0 < a.2 * b.2 ∧ (a.1 * b.2 + b.1 * a.2).natAbs < 2 ^ (n + m + 1) ∧ (a.2 * b.2).natAbs < 2 ^ (n + m) := by
  refine ⟨Int.mul_pos ha.1.1 hb.1.1, ?_, wide_lt ha.2.2 hb.2.2⟩
  have h1 := wide_lt ha.2.1 hb.2.2
  have h2 := wide_lt hb.2.1 ha.2.2
  rw [Nat.add_comm m n] at h2
  have h3 := Int.natAbs_add_le (a.1 * b.2) (b.1 * a.2)
  rw [Nat.pow_succ]
  omega
theorem mul_bits {n m : Nat} {a b : MF.P} (ha : Bd n a) (hb : Bd m b) : 0 < a.2 * b.2 ∧ (a.1 * b.1).natAbs < 2 ^ (n + m) ∧ (a.2 * b.2).natAbs < 2 ^ (n + m) := ⟨Int.mul_pos ha.1.1 hb.1.1, wide_lt ha.2.1 hb.2.1, wide_lt ha.2.2 hb.2.2⟩
theorem bd_add {n m : Nat} {a b : MF.P} (ha : Bd n a) (hb : Bd m b) : Bd (n + m + 1) (add a b) := by
  obtain ⟨h1, h2, h3⟩ := add_bits ha hb
  exact bd_red h1 h2 (Nat.lt_of_lt_of_le h3 (Nat.pow_le_pow_right (by decide) (by omega)))
theorem bd_mul {n m : Nat} {a b : MF.P} (ha : Bd n a) (hb : Bd m b) : Bd (n + m) (mul a b) := by
  obtain ⟨h1, h2, h3⟩ := mul_bits ha hb
  exact bd_red h1 h2 h3
def AllBd (n : Nat) (d : MF.D) : Prop := ∀ r ∈ d, Bd n r.2
theorem AllBd.lw {n : Nat} {d : MF.D} (h : AllBd n d) : AllLw d := fun r hr => (h r hr).1
theorem AllBd.mono {n m : Nat} {d : MF.D} (h : AllBd n d) (l : n ≤ m) : AllBd m d := fun r hr => (h r hr).mono l
theorem bd_zero : Bd 1 (0, 1) := ⟨lw_zero, by decide, by decide⟩
theorem bd_get {n : Nat} {d : MF.D} (h : AllBd n d) (h0 : 0 < n) (k : Int) : Bd n (MF.get d k) := by
  induction d with
  | nil => exact bd_zero.mono h0
  | cons r d ih =>
    rw [get_cons]
    split
    · exact h r List.mem_cons_self
    · exact ih fun x hx => h x (List.mem_cons_of_mem _ hx)
theorem put_mem {d : MF.D} {n : Int} {c : MF.P} {r : Int × MF.P} (hr : r ∈ put d n c) : r ∈ d ∨ r = (n, c) := by
  unfold put at hr
  split at hr
  · obtain ⟨x, hx, e⟩ := List.mem_map.mp hr
    split at e
    · exact .inr e.symm
    · exact .inl (e ▸ hx)
  · rcases List.mem_append.mp hr with z | z
    · exact .inl z
    · exact .inr (List.mem_singleton.mp z)
theorem bd_put {n : Nat} {d : MF.D} (h : AllBd n d) {k : Int} {c : MF.P} (hc : Bd n c) : AllBd n (put d k c) := fun r hr => by
  rcases put_mem hr with z | z
  · exact h r z
  · rw [z]
    exact hc
theorem put_len (d : MF.D) (n : Int) (c : MF.P) : (put d n c).length ≤ d.length + 1 := by
  unfold put
  split
  · rw [List.length_map]; omega
  · rw [List.length_append]; exact Nat.le_refl _
/-! the forms of the law -/
def worthP (c : MF.P) (d D : MF.D) : MF.P := d.foldl (fun t r => add t (mul r.2 (MF.get D r.1))) c
def qD (D : MF.D) (n : Int) : Rat := qv (MF.get D n)
theorem worth_bd {n k m : Nat} {D : MF.D} (hD : AllBd m D) (hm : 0 < m) : ∀ {d : MF.D} {c : MF.P}, Bd n c → AllBd k d → Bd (n + d.length * (k + m + 1)) (worthP c d D) := by
  intro d
  induction d generalizing n with
  | nil => exact fun hc _ => hc.mono (by omega)
  | cons r d ih =>
    intro c hc hd
    have h1 := bd_add hc (bd_mul (hd r List.mem_cons_self) (bd_get hD hm r.1))
    have h2 := ih h1 fun x hx => hd x (List.mem_cons_of_mem _ hx)
    show Bd _ (worthP (add c (mul r.2 (MF.get D r.1))) d D)
    refine h2.mono ?_
    rw [List.length_cons, Nat.succ_mul]
    omega
theorem worth_q {D : MF.D} (hD : AllLw D) : ∀ {d : MF.D} {c : MF.P}, Lw c → AllLw d → Lw (worthP c d D) ∧ qv (worthP c d D) = qv c + Sv (qD D) d := by
  intro d
  induction d with
  | nil => exact fun hc _ => ⟨hc, (Rat.add_zero _).symm⟩
  | cons r d ih =>
    intro c hc hd
    have hr := hd r List.mem_cons_self
    have hg := lw_get hD r.1
    obtain ⟨h1, h2⟩ := ih (c := add c (mul r.2 (MF.get D r.1))) (lw_add hc (lw_mul hr hg)) fun x hx => hd x (List.mem_cons_of_mem _ hx)
    refine ⟨h1, ?_⟩
    show qv (worthP (add c (mul r.2 (MF.get D r.1))) d D) = _
    rw [h2, qv_add hc (lw_mul hr hg), qv_mul hr hg, Sv_cons]
    show qv c + qv r.2 * qD D r.1 + Sv (qD D) d = _
    grind
theorem foldl_take {α β : Type} {f : β → α → β} {b : β} {l : List α} {i : Nat} {x : α} (h : l[i]? = some x) : (l.take (i + 1)).foldl f b = f ((l.take i).foldl f b) x := by
  rw [List.take_add_one, h, List.foldl_append]
  rfl
/-- the value of the rows that are left -/
theorem Sv_filter {v : Int → Rat} {d : MF.D} (hd : AllLw d) : Sv v (d.filter fun r => decide (r.2.1 ≠ 0)) = Sv v d := by
  induction d with
  | nil => rfl
  | cons r d ih =>
    have ih' := ih fun x hx => hd x (List.mem_cons_of_mem _ hx)
    rw [List.filter_cons, Sv_cons]
    by_cases h : r.2.1 = 0
    · rw [if_neg (by simp [h]), ih', (zero_iff (hd r List.mem_cons_self)).mp h, qv_zero]
      grind
    · rw [if_pos (by simp [h]), Sv_cons, ih']
theorem nodup_of_map {α β : Type} {f : α → β} {l : List α} (h : (l.map f).Nodup) : l.Nodup := (List.pairwise_map.mp h).imp fun h e => h (by rw [e])
theorem nodup_of_keys {d : MF.D} (h : ND d) : d.Nodup := nodup_of_map h
theorem get_of_mem {d : MF.D} (h : ND d) {r : Int × MF.P} (hr : r ∈ d) : MF.get d r.1 = r.2 := by
  induction d with
  | nil => cases hr
  | cons x d ih =>
    rw [get_cons]
    have hn := List.nodup_cons.mp (show (x.1 :: d.map (·.1)).Nodup from h)
    rcases List.mem_cons.mp hr with e | hm
    · rw [e, if_pos rfl]
    · rw [if_neg fun z => hn.1 (by rw [z]; exact List.mem_map_of_mem hm)]
      exact ih hn.2 hm
theorem mem_of_get {d : MF.D} (h : ND d) {n : Int} (hh : has d n = true) : (n, MF.get d n) ∈ d := by
  obtain ⟨r, hr, e⟩ := List.mem_map.mp (has_mem.mp hh)
  have k := get_of_mem h hr
  rw [e] at k
  rw [k, ← e]
  exact hr
theorem asc_nd' {l : List Int} (h : l.Pairwise (· < ·)) : l.Nodup := List.Pairwise.imp (fun h => Int.ne_of_lt h) h
theorem rows_perm {d rows : MF.D} (h : ND d) (hr : Rows d rows) : rows.Perm (d.filter fun r => decide (r.2.1 ≠ 0)) := by
  have n1 : rows.Nodup := nodup_of_map (f := fun x : Int × MF.P => x.1) (asc_nd' hr.1)
  refine (List.perm_ext_iff_of_nodup n1 ((nodup_of_keys h).filter _)).mpr fun ⟨n, c⟩ => ?_
  rw [hr.2 n c, List.mem_filter]
  constructor
  · rintro ⟨e, h0⟩
    have hh : has d n = true := by
      cases k : has d n with
      | true => rfl
      | false => rw [get_no k] at e; exact absurd (by rw [e]) h0
    exact ⟨by rw [e]; exact mem_of_get h hh, decide_eq_true h0⟩
  · rintro ⟨hm, h0⟩
    exact ⟨(get_of_mem h hm).symm, of_decide_eq_true h0⟩
theorem rows_Sv {v : Int → Rat} {d rows : MF.D} (h : ND d) (hl : AllLw d) (hr : Rows d rows) : Sv v rows = Sv v d := (Sv_perm (rows_perm h hr)).trans (Sv_filter hl)
theorem rows_len {d rows : MF.D} (h : ND d) (hr : Rows d rows) : rows.length ≤ d.length := by
  rw [(rows_perm h hr).length_eq]
  exact List.length_filter_le _ _
theorem rows_bd {n : Nat} {d rows : MF.D} (h : ND d) (hb : AllBd n d) (hr : Rows d rows) : AllBd n rows := fun r hm => hb r (List.mem_filter.mp ((rows_perm h hr).mem_iff.mp hm)).1
theorem asc_nd {d : MF.D} (h : (d.map (·.1)).Pairwise (· < ·)) : ND d := asc_nd' h
/-- the rows of the multiple -/
def mulD (a : MF.P) (d : MF.D) : MF.D := d.map fun r => (r.1, mul a r.2)
theorem mulD_nd {a : MF.P} {d : MF.D} (h : ND d) : ND (mulD a d) := by
  unfold ND mulD
  rw [List.map_map]
  exact h
theorem mulD_bd {n m : Nat} {a : MF.P} {d : MF.D} (ha : Bd n a) (h : AllBd m d) : AllBd (n + m) (mulD a d) := fun r hr => by
  obtain ⟨x, hx, e⟩ := List.mem_map.mp hr
  rw [← e]
  exact bd_mul ha (h x hx)
theorem mulD_get {a : MF.P} {d : MF.D} (ha : Lw a) (h : AllLw d) (n : Int) : MF.get (mulD a d) n = mul a (MF.get d n) := by
  induction d with
  | nil =>
    refine (qv_inj (lw_mul ha lw_zero) lw_zero ?_).symm
    rw [qv_mul ha lw_zero, qv_zero]
    exact Rat.mul_zero _
  | cons r d ih =>
    have e : mulD a (r :: d) = (r.1, mul a r.2) :: mulD a d := rfl
    rw [e, get_cons, get_cons, ih fun x hx => h x (List.mem_cons_of_mem _ hx)]
    split <;> rfl
theorem mulD_Sv {v : Int → Rat} {a : MF.P} {d : MF.D} (ha : Lw a) (h : AllLw d) : Sv v (mulD a d) = qv a * Sv v d := by
  induction d with
  | nil => exact (Rat.mul_zero _).symm
  | cons r d ih =>
    have e : mulD a (r :: d) = (r.1, mul a r.2) :: mulD a d := rfl
    rw [e, Sv_cons, Sv_cons, ih fun x hx => h x (List.mem_cons_of_mem _ hx), qv_mul ha (h r List.mem_cons_self)]
    grind
/-- no zero is made -/
theorem mul_ne {a b : MF.P} (ha : Lw a) (hb : Lw b) (h1 : a.1 ≠ 0) (h2 : b.1 ≠ 0) : (mul a b).1 ≠ 0 := fun z => by
  have h := (zero_iff (lw_mul ha hb)).mp z
  have e : qv a * qv b = 0 := by rw [← qv_mul ha hb, h, qv_zero]
  rcases Rat.mul_eq_zero.mp e with k | k
  · exact qv_ne ha h1 k
  · exact qv_ne hb h2 k
/-- a form as the law draws it -/
structure Fo (n : Nat) (c : MF.P) (d : MF.D) : Prop where
  c : Bd n c
  b : AllBd n d
  asc : (d.map (·.1)).Pairwise (· < ·)
  nz : ∀ r ∈ d, r.2.1 ≠ 0
theorem Fo.nd {n : Nat} {c : MF.P} {d : MF.D} (h : Fo n c d) : ND d := asc_nd h.asc
theorem Fo.of {n : Nat} {c : MF.P} {d rows : MF.D} (hc : Bd n c) (hn : ND d) (hb : AllBd n d) (hr : Rows d rows) : Fo n c rows := ⟨hc, rows_bd hn hb hr, hr.1, fun r hm => ((hr.2 r.1 r.2).mp hm).2⟩
theorem rows_self {n : Nat} {c : MF.P} {d : MF.D} (h : Fo n c d) : Rows d d := ⟨h.asc, fun n c => ⟨fun hm => ⟨(get_of_mem h.nd hm).symm, h.nz _ hm⟩, fun ⟨e, h0⟩ => by
  have hh : has d n = true := by
    cases k : has d n with
    | true => rfl
    | false => rw [get_no k] at e; exact absurd (by rw [e]) h0
  rw [e]
  exact mem_of_get h.nd hh⟩⟩
theorem rows_mulD {n : Nat} {a c : MF.P} {d : MF.D} (h : Fo n c d) (ha : Lw a) (h0 : a.1 ≠ 0) : Rows (mulD a d) (mulD a d) := by
  have hf : Fo (n + 1) (mul (0, 1) c) (mulD a d) → Rows (mulD a d) (mulD a d) := rows_self
  refine ⟨?_, fun k e => ?_⟩
  · unfold mulD
    rw [List.map_map]
    exact h.asc
  · have nd := mulD_nd (a := a) h.nd
    constructor
    · intro hm
      refine ⟨(get_of_mem nd hm).symm, ?_⟩
      obtain ⟨x, hx, z⟩ := List.mem_map.mp hm
      have z2 := (Prod.mk.inj z).2
      show e.1 ≠ 0
      rw [← z2]
      exact mul_ne ha (h.b.lw x hx) h0 (h.nz x hx)
    · rintro ⟨e1, h1⟩
      have hh : has (mulD a d) k = true := by
        cases z : has (mulD a d) k with
        | true => rfl
        | false => rw [get_no z] at e1; exact absurd (by rw [e1]) h1
      rw [e1]
      exact mem_of_get nd hh
theorem rows_zero {d rows : MF.D} (h : ∀ n, MF.get d n = (0, 1)) (hr : Rows d rows) : rows = [] := by
  cases rows with
  | nil => rfl
  | cons r rows =>
    have k := (hr.2 r.1 r.2).mp List.mem_cons_self
    rw [h r.1] at k
    exact absurd (by rw [k.1]) k.2
theorem twice {a : MF.P} (h : Lw a) : add a a = mul (2, 1) a := qv_inj (lw_add h h) (lw_mul (lw_int 2) h) (by
  rw [qv_add h h, qv_mul (lw_int 2) h]
  have : qv (2, 1) = 2 := rfl
  rw [this]
  grind)
theorem opp {a : MF.P} (h : Lw a) : add a (mul (-1, 1) a) = (0, 1) := qv_inj (lw_add h (lw_mul (lw_int (-1)) h)) lw_zero (by
  rw [qv_add h (lw_mul (lw_int (-1)) h), qv_mul (lw_int (-1)) h]
  have : qv (-1, 1) = -1 := rfl
  rw [this, qv_zero]
  grind)
theorem sumD_len : ∀ {g d : MF.D}, (sumD d g).length ≤ d.length + g.length
  | [], d => Nat.le_refl _
  | r :: g, d => by
    have h := sumD_len (g := g) (d := put d r.1 (add (MF.get d r.1) r.2))
    have h2 := put_len d r.1 (add (MF.get d r.1) r.2)
    have e : sumD d (r :: g) = sumD (put d r.1 (add (MF.get d r.1) r.2)) g := rfl
    rw [e, List.length_cons]
    omega
/-- the sum's coefficients are sums of two -/
theorem sumD_bd {n : Nat} (h0 : 0 < n) {g d : MF.D} (hg : ND g) (hd : ND d) (bg : AllBd n g) (bd : AllBd n d) : AllBd (n + n + 1) (sumD d g) := fun r hr => by
  have hn := (sumD_facts (g := g) hd bd.lw bg.lw).1
  rw [← get_of_mem hn hr, sumD_get hg bd.lw bg.lw]
  exact bd_add (bd_get bd h0 _) (bd_get bg h0 _)
end L

namespace L
open PySem PySem.Spec PyProof.Rows L2 Z M MF DT
theorem PX.refl' {q : Addr} {H H' : Hp} (h : PX q H H') : PoolAt H' q := h.2
section
variable {P : Program} {w : World} {K : PySem.W.Frag} {mg : Str → Option Value} {base : Heap}
theorem tyx_T {H : Hp} {a : Addr} {xs : List V} (h : SqT K H a xs) : TyX K H (.ref a) (.type "tuple") := by
  rcases h with (h | ⟨o, h⟩) | ⟨o, its, n, h, c, _⟩
  · exact .base (.tup h)
  · exact .fTuple h
  · exact .kTuple h c
theorem w_isiT_T {H : Hp} {p : Addr} {xs : List V} {Q : VK} (h : SqT K H p xs) (q : Q (.bl true) H) : rIsi K [.ref p, .ty "tuple"] H Q := w_isi (.ty _) (tyx_T h) (kit_ty (by decide +kernel)) q
theorem use_takeP {q : Addr} {n : Int} {H : Hp} {Q : VK} {E : XK} (h : PoolAt H q) (h1 : 0 < n) (h2 : n < 1073741824) (hq : ∀ r H', PX q H H' → 0 ≤ r → r < n → Q (.int r) H') : spTake [.ref q, .int n] H Q E := by
  obtain ⟨o, ho, hp⟩ := id h
  exact ⟨q, o, n, rfl, ho, hp, h1, h2, fun r o' a b c => hq r _ (.take h c) a b⟩
theorem use_sizedP {q : Addr} {n : Int} {H : Hp} {Q : VK} {E : XK} (h : PoolAt H q) (h1 : 0 ≤ n) (h2 : n ≤ 3) (hq : ∀ r H', PX q H H' → -(10 ^ 18 : Int) < r → r < 10 ^ 18 → Q (.int r) H') : spSized [.ref q, .int n] H Q E := by
  obtain ⟨o, ho, hp⟩ := id h
  exact ⟨q, o, n, rfl, ho, hp, h1, h2, fun r o' a b c => hq r _ (.take h c) a b⟩
end
end L

local macro_rules | `(tactic| walk_at "cond") => `(tactic| first | assumption | fail "cond")
local macro_rules | `(tactic| walk_at "pl") => `(tactic| first | assumption | exact L.PX.refl' (by assumption) | fail "pl")
local macro_rules | `(tactic| walk_at "w1") => `(tactic| first
  | ((with_reducible refine' Z.w_ixT ?wh ?wa ?_); (case wh => walk_at "seq"); (case wa => exact rfl))
  | ((with_reducible refine' Z.w_gtup ?wh ?wa ?_); (case wh => walk_at "seq"); (case wa => exact rfl))
  | ((with_reducible refine' L.w_isiT_T ?wh ?_); (case wh => walk_at "seq"))
  | ((with_reducible refine' L.use_takeP ?wh ?wa ?wb (fun r H1 p1 h0 h1 => ?_)); (case wh => walk_at "pl"); (case wa => omega); (case wb => omega))
  | with_reducible refine L.use_whole ?_
  | with_reducible refine L.w_tdget ?_
  | with_reducible refine L.w_tdget2 ?_
  | fail "w1")

namespace L
open PySem PySem.Spec PyProof.Rows L2 Z M MF DT
section
variable {P : Program} {w : World} {K : PySem.W.Frag} {mg : Str → Option Value} {base : Heap}
def Sm (q : Int) : Prop := q.natAbs < 2 ^ 9000
theorem Sm.of {n : Nat} {q : Int} (h : q.natAbs < 2 ^ n) (l : n ≤ 9000) : Sm q := Nat.lt_of_lt_of_le h (Nat.pow_le_pow_right (by decide) l)
theorem cdiv {p : Int} {q : Int} {g : Nat} (hq : Sm q) (g0 : 0 < g) (g1 : g ≤ q.natAbs) : CDivW p (g : Int) := wide_div (b := 9000) (by omega) (by rw [Int.natAbs_natCast]; exact Nat.lt_of_le_of_lt g1 hq) (by decide) (by decide)
def spLow : Sp := fun vs H Q _ => ∃ p q : Int, vs = [.int p, .int q] ∧ 0 < q ∧ Sm q ∧ ∀ t, H t = none → Q (.ref t) (upd H t (tupP (red p q)))
theorem use_low {p q : Int} {H : Hp} {Q : VK} {E : XK} (h0 : 0 < q) (h1 : Sm q) (h : ∀ t, H t = none → Q (.ref t) (upd H t (tupP (red p q)))) : spLow [.int p, .int q] H Q E := ⟨p, q, rfl, h0, h1, h⟩
theorem ok_lowest (T : Txt K mg) : FnOk P w K mg base CX0 1 T.f_lowest T.fd_lowest ["_law_p", "_law_q"] spLow := by
  refine T.F_lowest.ok sc_lowest (fun vs H Q E h => ?_) (fun cdv A outer s H vs Q E hr h => ?_)
  · obtain ⟨a, b, rfl, _⟩ := h
    rfl
  · obtain ⟨p, q, rfl, h0, hb, hq⟩ := h
    refine ⟨_, (pss_cons (ps_set (i := 2) sc_lowest.nd rfl (.inl rfl) (pe_callB call_abs (by rfl) T.m_abs (by decide +kernel) (pa_cons (pv 0) pa_nil)))
 (pss_cons (ps_set (i := 3) sc_lowest.nd rfl (.inl rfl) (pv 1))
 (pss_cons (ps_for PassesOwn.never rfl (pi_range1 (by rfl) T.m_range (pa_cons (pe_op op_add (pe_op op_mul pe_int (pe_bits (pv 3))) pe_int) pa_nil)) (pg_name (i := 4) sc_lowest.nd rfl (.inl rfl)) (pss_cons (ps_if (pt_cmpR op_eq (pv 3) pe_int (nomark _)) (pss_one ps_break) pss_nil)
 (pss_one (ps_par (i := 2) (j := 3) (by rfl) sc_lowest.nd rfl rfl (by decide) rfl rfl (pa_cons (pv 3) (pa_cons (pe_op op_mod (pe_callTy call_int1 (by rfl) T.m_int (by decide +kernel) (pa_cons (pv 2) pa_nil)) (pe_callTy call_int1 (by rfl) T.m_int (by decide +kernel) (pa_cons (pv 3) pa_nil))) pa_nil)) (by rfl)))))
 (pss_one (ps_ret (pe_tup (pa_cons (pe_op op_fdivW (pv 0) (pv 2)) (pa_cons (pe_op op_fdivW (pv 1) (pv 2)) pa_nil)))))))), ?_⟩
    refine Z.w_start (σ' := [some (.int p), some (.int q), none, none, none]) rfl ?_
    walk_at "w"
    have ea : (if p < 0 then -p else p) = (p.natAbs : Int) := by split <;> omega
    have eb : q = (q.natAbs : Int) := by omega
    rw [ea]
    have hL := bits_lt q.natAbs
    have hL2 : Builtin.Int.intBits (q.natAbs : Int) ≤ 9001 := by
      unfold Builtin.Int.intBits
      split
      · omega
      · have := PySem.Flt.log2_lt_of (show 0 < 9000 by decide) hb
        rw [Int.natAbs_natCast]
        omega
    rw [← eb] at hL hL2
    generalize hn : Builtin.Int.intBits q = n at *
    refine ⟨by omega, by omega, ?_⟩
    refine for_range (lo := 0) (n := (2 * (n : Int) + 5).toNat) (fun i σ H' => ∃ (u v : Nat) (x4 : Option V), σ = [some (.int p), some (.int q), some (.int u), some (.int v), x4] ∧ H' = H ∧ Eu p.natAbs q.natAbs n i u v) ?_ ?_ ?_
    · exact ⟨p.natAbs, q.natAbs, _, by rw [← eb], rfl, eu_zero _ _ _⟩
    · rintro i σ H' hi ⟨u, v, x2, rfl, rfl, he⟩
      walk_at "w"
      walk_at "wi"
      · rename_i hv
        have hv' : v = 0 := by omega
        subst hv'
        have hg := eu_gcd he
        subst hg
        have g0 : 0 < Nat.gcd p.natAbs q.natAbs := Nat.gcd_pos_of_pos_right _ (by omega)
        have g1 : Nat.gcd p.natAbs q.natAbs ≤ q.natAbs := Nat.le_of_dvd (by omega) (Nat.gcd_dvd_right _ _)
        have c1 := cdiv (p := p) hb g0 g1
        have c2 := cdiv (p := q) hb g0 g1
        walk_at "w"
        exact hq _ (by assumption)
      · walk_at "w"
        exact ⟨v, u % v, _, rfl, rfl, eu_next hL he (by omega)⟩
    · rintro σ H' ⟨u, v, x2, rfl, rfl, he⟩
      have hv := eu_end (by omega) he
      subst hv
      have hg := eu_gcd he
      subst hg
      have g0 : 0 < Nat.gcd p.natAbs q.natAbs := Nat.gcd_pos_of_pos_right _ (by omega)
      have g1 : Nat.gcd p.natAbs q.natAbs ≤ q.natAbs := Nat.le_of_dvd (by omega) (Nat.gcd_dvd_right _ _)
      have c1 := cdiv (p := p) hb g0 g1
      have c2 := cdiv (p := q) hb g0 g1
      walk_at "w"
      exact hq _ (by assumption)
theorem ok_ratio (T : Txt K mg) : FnOk P w K mg base CX0 1 T.f_ratio T.fd_ratio ["p", "q"] spLow := by
  refine T.F_ratio.ok sc_ratio (fun vs H Q E h => ?_) (fun cdv A outer s H vs Q E hr h => ?_)
  · obtain ⟨p, q, rfl, _⟩ := h
    rfl
  · obtain ⟨p, q, rfl, h0, hb, h1⟩ := h
    refine ⟨_, (pss_cons (ps_if (pt_cmpR op_eq (pv 1) pe_int (nomark _)) (pss_one ps_never) pss_nil)
 (pss_cons (ps_if (pt_cmpR op_lt (pv 1) pe_int (nomark _)) (pss_one (ps_par (i := 0) (j := 1) (by rfl) sc_ratio.nd rfl rfl (by decide) rfl rfl (pa_cons (pe_un un_neg (pv 0)) (pa_cons (pe_un un_neg (pv 1)) pa_nil)) (by rfl))) pss_nil)
 (pss_cons (ps_set (i := 2) sc_ratio.nd rfl (.inl rfl) (pe_callBfun cr_gcd (by rfl) T.m_gcd (pa_cons (pv 0) (pa_cons (pv 1) pa_nil))))
 (pss_one (ps_ret (pe_tup (pa_cons (pe_op op_fdivW (pv 0) (pv 2)) (pa_cons (pe_op op_fdivW (pv 1) (pv 2)) pa_nil)))))))), ?_⟩
    refine Z.w_start (σ' := [some (.int p), some (.int q), none]) rfl ?_
    have g0 : 0 < Nat.gcd p.natAbs q.natAbs := Nat.gcd_pos_of_pos_right _ (by omega)
    have g1 : Nat.gcd p.natAbs q.natAbs ≤ q.natAbs := Nat.le_of_dvd (by omega) (Nat.gcd_dvd_right _ _)
    have c1 := cdiv (p := p) hb g0 g1
    have c2 := cdiv (p := q) hb g0 g1
    walk_at "w"
    exact h1 _ (by assumption)
theorem b_ratio2 (T : Txt K mg) : Binds K T.fd_ratio ["p", "q"] [] := by
  obtain ⟨ds, h, b⟩ := T.F_ratio.binds1 (ps := ["p", "q"]) 2 1 (by decide) rfl fun Tt kV doc pm an cdv ct us its h1 h2 => match us, its, h1, h2 with | [_, _], [_], _, _ => ⟨_, rfl, rfl⟩
  cases h
  exact b
def spBin (K : PySem.W.Frag) (f : MF.P → MF.P → MF.P) : Sp := fun vs H Q _ => ∃ (x y : Addr) (a b : MF.P) (n m : Nat), vs = [.ref x, .ref y] ∧ Rt K H x a ∧ Rt K H y b ∧ Bd n a ∧ Bd m b ∧ 0 < n ∧ 0 < m ∧ n + m ≤ 8900 ∧ ∀ t, H t = none → Q (.ref t) (upd H t (tupP (f a b)))
theorem use_bin {f : MF.P → MF.P → MF.P} {x y : Addr} {a b : MF.P} {n m : Nat} {H : Hp} {Q : VK} {E : XK} (hx : Rt K H x a) (hy : Rt K H y b) (ha : Bd n a) (hb : Bd m b) (h0 : 0 < n) (h1 : 0 < m) (h2 : n + m ≤ 8900) (h : ∀ t, H t = none → Q (.ref t) (upd H t (tupP (f a b)))) : spBin K f [.ref x, .ref y] H Q E := ⟨x, y, a, b, n, m, rfl, hx, hy, ha, hb, h0, h1, h2, h⟩
theorem ok_plus (T : Txt K mg) : FnOk P w K mg base CX0 2 T.f_plus T.fd_plus ["a", "b"] (spBin K add) := by
  have G_ratio := ok_ratio (P := P) (w := w) (base := base) T
  refine T.F_plus.ok sc_plus (fun vs H Q E h => ?_) (fun cdv A outer s H vs Q E hr h => ?_)
  · obtain ⟨x, y, a, b, n, m, rfl, _⟩ := h
    rfl
  · obtain ⟨x, y, a, b, n, m, rfl, hx, hy, ha, hb, h0, h1, h2, h⟩ := h
    have hx' : SqT K H x [.int a.1, .int a.2] := hx
    have hy' : SqT K H y [.int b.1, .int b.2] := hy
    have m1 : CMulW a.1 b.2 := wide_mul ha.2.1 hb.2.2 h0 h1 (by omega)
    have m2 : CMulW b.1 a.2 := wide_mul hb.2.1 ha.2.2 h1 h0 (by omega)
    have m3 : CMulW a.2 b.2 := wide_mul ha.2.2 hb.2.2 h0 h1 (by omega)
    obtain ⟨k1, _, k3⟩ := add_bits ha hb
    refine ⟨_, (pss_one (ps_ret (pe_call G_ratio (hr.mono (by decide)) (by rfl) T.g_ratio T.F_ratio.kp (b_ratio2 T) .nil pass0 (pa_cons (pe_op op_add (pe_op op_mulW (pe_ix ix_tup (pv 0) pe_int (fun _ _ => rfl)) (pe_ix ix_tup (pv 1) pe_int (fun _ _ => rfl))) (pe_op op_mulW (pe_ix ix_tup (pv 1) pe_int (fun _ _ => rfl)) (pe_ix ix_tup (pv 0) pe_int (fun _ _ => rfl)))) (pa_cons (pe_op op_mulW (pe_ix ix_tup (pv 0) pe_int (fun _ _ => rfl)) (pe_ix ix_tup (pv 1) pe_int (fun _ _ => rfl))) pa_nil))))), ?_⟩
    refine Z.w_start (σ' := [some (.ref x), some (.ref y)]) rfl ?_
    walk_at "w"
    exact use_low k1 (Sm.of k3 (by omega)) h
theorem ok_times (T : Txt K mg) : FnOk P w K mg base CX0 2 T.f_times T.fd_times ["a", "b"] (spBin K mul) := by
  have G_ratio := ok_ratio (P := P) (w := w) (base := base) T
  refine T.F_times.ok sc_times (fun vs H Q E h => ?_) (fun cdv A outer s H vs Q E hr h => ?_)
  · obtain ⟨x, y, a, b, n, m, rfl, _⟩ := h
    rfl
  · obtain ⟨x, y, a, b, n, m, rfl, hx, hy, ha, hb, h0, h1, h2, h⟩ := h
    have hx' : SqT K H x [.int a.1, .int a.2] := hx
    have hy' : SqT K H y [.int b.1, .int b.2] := hy
    have m1 : CMulW a.1 b.1 := wide_mul ha.2.1 hb.2.1 h0 h1 (by omega)
    have m3 : CMulW a.2 b.2 := wide_mul ha.2.2 hb.2.2 h0 h1 (by omega)
    obtain ⟨k1, _, k3⟩ := mul_bits ha hb
    refine ⟨_, (pss_one (ps_ret (pe_call G_ratio (hr.mono (by decide)) (by rfl) T.g_ratio T.F_ratio.kp (b_ratio2 T) .nil pass0 (pa_cons (pe_op op_mulW (pe_ix ix_tup (pv 0) pe_int (fun _ _ => rfl)) (pe_ix ix_tup (pv 1) pe_int (fun _ _ => rfl))) (pa_cons (pe_op op_mulW (pe_ix ix_tup (pv 0) pe_int (fun _ _ => rfl)) (pe_ix ix_tup (pv 1) pe_int (fun _ _ => rfl))) pa_nil))))), ?_⟩
    refine Z.w_start (σ' := [some (.ref x), some (.ref y)]) rfl ?_
    walk_at "w"
    exact use_low k1 (Sm.of k3 (by omega)) h
theorem ok_add (T : Txt K mg) : FnOk P w K mg base CX0 2 T.f_add T.fd_add ["_law_a", "_law_b"] (spBin K add) := by
  have G_lowest := ok_lowest (P := P) (w := w) (base := base) T
  refine T.F_add.ok sc_add (fun vs H Q E h => ?_) (fun cdv A outer s H vs Q E hr h => ?_)
  · obtain ⟨x, y, a, b, n, m, rfl, _⟩ := h
    rfl
  · obtain ⟨x, y, a, b, n, m, rfl, hx, hy, ha, hb, h0, h1, h2, h⟩ := h
    have hx' : SqT K H x [.int a.1, .int a.2] := hx
    have hy' : SqT K H y [.int b.1, .int b.2] := hy
    have m1 : CMulW a.1 b.2 := wide_mul ha.2.1 hb.2.2 h0 h1 (by omega)
    have m2 : CMulW b.1 a.2 := wide_mul hb.2.1 ha.2.2 h1 h0 (by omega)
    have m3 : CMulW a.2 b.2 := wide_mul ha.2.2 hb.2.2 h0 h1 (by omega)
    obtain ⟨k1, _, k3⟩ := add_bits ha hb
    refine ⟨_, (pss_one (ps_ret (pe_call G_lowest (hr.mono (by decide)) (by rfl) T.g_lowest T.F_lowest.kp T.b_lowest .nil pass0 (pa_cons (pe_op op_add (pe_op op_mulW (pe_ix ix_tup (pv 0) pe_int (fun _ _ => rfl)) (pe_ix ix_tup (pv 1) pe_int (fun _ _ => rfl))) (pe_op op_mulW (pe_ix ix_tup (pv 1) pe_int (fun _ _ => rfl)) (pe_ix ix_tup (pv 0) pe_int (fun _ _ => rfl)))) (pa_cons (pe_op op_mulW (pe_ix ix_tup (pv 0) pe_int (fun _ _ => rfl)) (pe_ix ix_tup (pv 1) pe_int (fun _ _ => rfl))) pa_nil))))), ?_⟩
    refine Z.w_start (σ' := [some (.ref x), some (.ref y)]) rfl ?_
    walk_at "w"
    exact use_low k1 (Sm.of k3 (by omega)) h
theorem ok_mul (T : Txt K mg) : FnOk P w K mg base CX0 2 T.f_mul T.fd_mul ["_law_a", "_law_b"] (spBin K mul) := by
  have G_lowest := ok_lowest (P := P) (w := w) (base := base) T
  refine T.F_mul.ok sc_mul (fun vs H Q E h => ?_) (fun cdv A outer s H vs Q E hr h => ?_)
  · obtain ⟨x, y, a, b, n, m, rfl, _⟩ := h
    rfl
  · obtain ⟨x, y, a, b, n, m, rfl, hx, hy, ha, hb, h0, h1, h2, h⟩ := h
    have hx' : SqT K H x [.int a.1, .int a.2] := hx
    have hy' : SqT K H y [.int b.1, .int b.2] := hy
    have m1 : CMulW a.1 b.1 := wide_mul ha.2.1 hb.2.1 h0 h1 (by omega)
    have m3 : CMulW a.2 b.2 := wide_mul ha.2.2 hb.2.2 h0 h1 (by omega)
    obtain ⟨k1, _, k3⟩ := mul_bits ha hb
    refine ⟨_, (pss_one (ps_ret (pe_call G_lowest (hr.mono (by decide)) (by rfl) T.g_lowest T.F_lowest.kp T.b_lowest .nil pass0 (pa_cons (pe_op op_mulW (pe_ix ix_tup (pv 0) pe_int (fun _ _ => rfl)) (pe_ix ix_tup (pv 1) pe_int (fun _ _ => rfl))) (pa_cons (pe_op op_mulW (pe_ix ix_tup (pv 0) pe_int (fun _ _ => rfl)) (pe_ix ix_tup (pv 1) pe_int (fun _ _ => rfl))) pa_nil))))), ?_⟩
    refine Z.w_start (σ' := [some (.ref x), some (.ref y)]) rfl ?_
    walk_at "w"
    exact use_low k1 (Sm.of k3 (by omega)) h
end
end L

namespace L
open PySem PySem.Spec PyProof.Rows L2 Z M MF DT
section
variable {P : Program} {w : World} {K : PySem.W.Frag} {mg : Str → Option Value} {base : Heap}
def spLr (K : PySem.W.Frag) : Sp := fun vs H Q _ => ∃ (q : Addr) (l : Bool), vs = [.ref q, .bl l] ∧ PoolAt H q ∧ ∀ v a H', PX q H H' → RtV K H' v a → Bd 61 a → Q v H'
theorem use_lr {q : Addr} {l : Bool} {H : Hp} {Q : VK} {E : XK} (h : PoolAt H q) (hq : ∀ v a H', PX q H H' → RtV K H' v a → Bd 61 a → Q v H') : spLr K [.ref q, .bl l] H Q E := ⟨q, l, rfl, h, hq⟩
theorem bd_low {p q : Int} (h0 : 0 < q) (h1 : -(10 ^ 18 : Int) < p) (h2 : p < 10 ^ 18) (h3 : q < 10 ^ 18) : Bd 61 (red p q) ∧ Sm q := ⟨bd_red h0 (by omega) (by omega), Sm.of (n := 61) (by omega) (by decide)⟩
theorem max1 {r : Int} : 0 < (if (if r < 0 then -r else r) > 1 then (if r < 0 then -r else r) else 1) ∧ (if (if r < 0 then -r else r) > 1 then (if r < 0 then -r else r) else 1) ≤ r.natAbs + 1 := by
  constructor <;> (repeat' split) <;> omega
theorem max2 {r : Int} (h1 : -(10 ^ 18 : Int) < r) (h2 : r < 10 ^ 18) : (if (if r < 0 then -r else r) > 1 then (if r < 0 then -r else r) else 1) < 10 ^ 18 := by
  (repeat' split) <;> omega
theorem ok_Lratio (T : Txt K mg) : FnOk P w K mg base CX0 3 T.f_Lratio T.fd_Lratio ["_law_pool_here", "_law_long"] (spLr K) := by
  have G_take := ok_take (P := P) (w := w) (base := base) T
  have G_sized := ok_sized (P := P) (w := w) (base := base) T
  have G_lowest := ok_lowest (P := P) (w := w) (base := base) T
  refine T.F_Lratio.ok sc_Lratio (fun vs H Q E h => ?_) (fun cdv A outer s H vs Q E hr h => ?_)
  · obtain ⟨q, l, rfl, _⟩ := h
    rfl
  · obtain ⟨q, l, rfl, hp, h⟩ := h
    refine ⟨_, (pss_cons (ps_if (pt_val (pv 1)) (pss_cons (ps_set (i := 2) sc_Lratio.nd rfl (.inl rfl) (pe_call G_sized (hr.mono (by decide)) (by rfl) T.g_sized T.F_sized.kp T.b_sized .nil pass0 (pa_cons (pv 0) (pa_cons pe_int pa_nil))))
 (pss_one (ps_ret (pe_call G_lowest (hr.mono (by decide)) (by rfl) T.g_lowest T.F_lowest.kp T.b_lowest .nil pass0 (pa_cons (pv 2) (pa_cons (pe_callB (call_max2 rfl) (by rfl) T.m_max (by decide +kernel) (pa_cons pe_int (pa_cons (pe_callB call_abs (by rfl) T.m_abs (by decide +kernel) (pa_cons (pe_call G_sized (hr.mono (by decide)) (by rfl) T.g_sized T.F_sized.kp T.b_sized .nil pass0 (pa_cons (pv 0) (pa_cons pe_int pa_nil))) pa_nil)) pa_nil))) pa_nil)))))) pss_nil)
 (pss_cons (ps_set (i := 2) sc_Lratio.nd rfl (.inl rfl) (pe_op op_sub (pe_call G_take (hr.mono (by decide)) (by rfl) T.g_take T.F_take.kp T.b_take .nil pass0 (pa_cons (pv 0) (pa_cons pe_int pa_nil))) pe_int))
 (pss_cons (ps_if (pt_cmpR op_eq (pe_call G_take (hr.mono (by decide)) (by rfl) T.g_take T.F_take.kp T.b_take .nil pass0 (pa_cons (pv 0) (pa_cons pe_int pa_nil))) pe_int (nomark _)) (pss_one (ps_set (i := 2) sc_Lratio.nd rfl (.inl rfl) (pe_op op_sub (pe_call G_take (hr.mono (by decide)) (by rfl) T.g_take T.F_take.kp T.b_take .nil pass0 (pa_cons (pv 0) (pa_cons pe_int pa_nil))) pe_int))) pss_nil)
 (pss_one (ps_ret (pe_call G_lowest (hr.mono (by decide)) (by rfl) T.g_lowest T.F_lowest.kp T.b_lowest .nil pass0 (pa_cons (pv 2) (pa_cons (pe_op op_add pe_int (pe_call G_take (hr.mono (by decide)) (by rfl) T.g_take T.F_take.kp T.b_take .nil pass0 (pa_cons (pv 0) (pa_cons pe_int pa_nil)))) pa_nil)))))))), ?_⟩
    refine Z.w_start (σ' := [some (.ref q), some (.bl l), none]) rfl ?_
    cases l with
    | true =>
      walk_at "w"
      refine use_sizedP hp (by decide) (by decide) fun r1 H1 p1 a1 a2 => ?_
      walk_at "w"
      refine use_sizedP p1.2 (by decide) (by decide) fun r2 H2 p2 b1 b2 => ?_
      walk_at "w"
      obtain ⟨k1, k2⟩ := bd_low (p := r1) max1.1 a1 a2 (max2 b1 b2)
      refine use_low max1.1 k2 fun t ht => ?_
      exact h _ _ _ ((p1.trans p2).new ht) ⟨t, rfl, .new⟩ k1
    | false =>
      walk_at "w"
      rename_i r1 H1 p1 a1 a2 r2 H2 p2 b1 b2
      walk_at "wi"
      · walk_at "w"
        rename_i r3 H3 p3 c1 c2 r4 H4 p4 d1 d2
        obtain ⟨k1, k2⟩ := bd_low (p := r3 - 1000) (q := 1 + r4) (by omega) (by omega) (by omega) (by omega)
        refine use_low (by omega) k2 fun t ht => ?_
        exact h _ _ _ ((((p1.trans p2).trans p3).trans p4).new ht) ⟨t, rfl, .new⟩ k1
      · walk_at "w"
        rename_i r4 H4 p4 d1 d2
        obtain ⟨k1, k2⟩ := bd_low (p := r1 - 3) (q := 1 + r4) (by omega) (by omega) (by omega) (by omega)
        refine use_low (by omega) k2 fun t ht => ?_
        exact h _ _ _ (((p1.trans p2).trans p4).new ht) ⟨t, rfl, .new⟩ k1
theorem bd_one : Bd 61 (1, 1) := ⟨lw_int 1, by decide, by decide⟩
theorem ok_factor (T : Txt K mg) : FnOk P w K mg base CX0 4 T.f_factor T.fd_factor ["_law_pool_here", "_law_long"] (spLr K) := by
  have G_Lratio := ok_Lratio (P := P) (w := w) (base := base) T
  refine T.F_factor.ok sc_factor (fun vs H Q E h => ?_) (fun cdv A outer s H vs Q E hr h => ?_)
  · obtain ⟨q, l, rfl, _⟩ := h
    rfl
  · obtain ⟨q, l, rfl, hp, h⟩ := h
    refine ⟨_, (pss_cons (ps_set (i := 2) sc_factor.nd rfl (.inl rfl) (pe_call G_Lratio (hr.mono (by decide)) (by rfl) T.g_Lratio T.F_Lratio.kp T.b_Lratio .nil pass0 (pa_cons (pv 0) (pa_cons (pv 1) pa_nil))))
 (pss_cons (ps_if (pt_cmpR op_eq (pe_ix ix_tup (pv 2) pe_int (fun _ _ => rfl)) pe_int (nomark _)) (pss_one (ps_ret (pe_tup (pa_cons pe_int (pa_cons pe_int pa_nil))))) pss_nil)
 (pss_one (ps_ret (pv 2))))), ?_⟩
    refine Z.w_start (σ' := [some (.ref q), some (.bl l), none]) rfl ?_
    walk_at "w"
    refine use_lr hp fun v a H1 p1 ⟨t, e, ht⟩ hb => ?_
    subst e
    have ht' : SqT K H1 t [.int a.1, .int a.2] := ht
    walk_at "w"
    walk_at "wi"
    · walk_at "w"
      exact h _ _ _ (p1.new (by assumption)) ⟨_, rfl, .new (a := (1, 1))⟩ bd_one
    · walk_at "w"
      exact h _ _ _ p1 ⟨t, rfl, ht⟩ hb
/-! formed -/
def keepN (D : MF.D) (ns : List Int) : MF.D := (ns.filter fun n => decide ((MF.get D n).1 ≠ 0)).map fun n => (n, MF.get D n)
theorem keepN_snoc {D : MF.D} {ns : List Int} {n : Int} : keepN D (ns ++ [n]) = keepN D ns ++ if (MF.get D n).1 ≠ 0 then [(n, MF.get D n)] else [] := by
  unfold keepN
  rw [List.filter_append, List.map_append]
  by_cases h : (MF.get D n).1 ≠ 0
  · rw [if_pos h]
    simp [h]
  · rw [if_neg h]
    simp at h
    simp [h]
/-- a comprehension over the sorted nodes that keeps the rows that are not zero -/
theorem lc_rows {a Dl d : Addr} {D : MF.D} {ns : List Int} {g : TG} {tt : TT} {te : TE} {ivs : List Nat} {σ : L2.St} {H : Hp} {Qd : Hp → Prop} (hS : SqL K H a (ns.map V.int)) (hd : DictAt K H d D) (hD : H Dl = none) (hn : ns.length < 1000) (hm : ∀ n ∈ ns, has D n = true)
    (he : ∀ H' vs, Same H H' → H' Dl = some (.lst vs) → RowsV K H' vs (keepN D ns) → Qd H')
    (hs : ∀ (n : Int) (H' : Hp) (R : L2.St → Hp → Prop), n ∈ ns → Same H H' → DictAt K H' d D → (∀ σ2, wipe σ2 ivs = wipe σ ivs → (∀ (Q : VK), (∀ v H2, Same H' H2 → RowV K H2 v (n, MF.get D n) → Q v H2) → te σ2 H' Q) → (∀ (R : Bool → Hp → Prop), R (decide ((MF.get D n).1 ≠ 0)) H' → tt σ2 H' R) → R σ2 H') → g (.int n) (wipe σ ivs) H' R) :
    ∃ W : Nat → Nat → Hp → Prop, (∃ m, W 0 m (upd H Dl (.lst []))) ∧ ∀ i m H, W i m H →
      ((Itl K a).stop i H ∧ Qd H) ∨ ((Itl K a).go i H ∧ ∃ Nx : Hp → Prop, (∀ H', Nx H' → ∃ m', m' < m ∧ W (i + 1) m' H') ∧ ∀ x H', (Itl K a).yld i H x H' → g x (wipe σ ivs) H' fun σ2 H2 => wipe σ2 ivs = wipe σ ivs ∧ tt σ2 H2 fun b H3 =>
        if b = true then te σ2 H3 fun y H4 => ∃ acc, H4 Dl = some (.lst acc) ∧ acc.length < sizeLine ∧ Nx (upd H4 Dl (.lst (acc ++ [y]))) else Nx H3) := by
  refine lc_list (xs := ns.map V.int) (fun i H' => Same H H' ∧ ∃ vs, H' Dl = some (.lst vs) ∧ RowsV K H' vs (keepN D (ns.take i)) ∧ i ≤ ns.length) ?_ ?_ ?_ ?_
  · exact ⟨same_of (Same.refl _) hD, [], upd_same, .nil, Nat.zero_le _⟩
  · intro i H' _ h
    exact Evl.ex_l h.1 hS
  · rintro i x H' hx ⟨sm, vs, hv, hr, hi⟩
    rw [List.getElem?_map] at hx
    cases hxi : ns[i]? with
    | none => rw [hxi] at hx; cases hx
    | some n =>
      rw [hxi] at hx
      obtain rfl : V.int n = x := Option.some.inj hx
      have hil : i < ns.length := (List.getElem?_eq_some_iff.mp hxi).1
      have ht : ns.take (i + 1) = ns.take i ++ [n] := by rw [List.take_add_one, hxi]; rfl
      refine hs n H' _ (List.mem_of_getElem? hxi) sm (hd.mo (.of sm)) fun σ2 e1 e3 e4 => ⟨e1, e4 _ ?_⟩
      by_cases hz : (MF.get D n).1 ≠ 0
      · rw [if_pos (by simp [hz])]
        refine e3 _ fun v H2 s2 hrow => ⟨vs, s2 _ _ hv, ?_, same_mut (sm.trans s2) hD, vs ++ [v], upd_same, ?_, hil⟩
        · rw [hr.len]
          refine Nat.lt_of_le_of_lt ?_ (show 1000 < sizeLine by decide)
          unfold keepN
          rw [List.length_map]
          refine Nat.le_trans (List.length_filter_le _ _) ?_
          rw [List.length_take]
          omega
        · rw [ht, keepN_snoc, if_pos hz]
          have tu : Tu H2 (upd H2 Dl (.lst (vs ++ [v]))) := Tu.of ((Mo.refl H2).lst (s2 _ _ hv))
          exact PySem.Paired.snoc (RowsV.tu hr ((Tu.ofS s2).trans tu)) (hrow.tu tu)
      · rw [if_neg (by simp at hz; simp [hz])]
        refine ⟨sm, vs, hv, ?_, hil⟩
        rw [ht, keepN_snoc, if_neg hz, List.append_nil]
        exact hr
  · rintro H' ⟨sm, vs, hv, hr, _⟩
    rw [List.length_map, List.take_length] at hr
    exact he H' vs sm hv hr
theorem kv_keys {H : Hp} : ∀ {kvs : List (Key × V)} {D : MF.D}, PySem.Paired (KvR K H) kvs D → kvs.map (·.1) = (D.map (·.1)).map Sum.inl
  | _, _, .nil => rfl
  | _, _, .cons h t => by
    rw [List.map_cons, List.map_cons, List.map_cons, kv_keys t, h.1]
theorem kv_keysV {H : Hp} : ∀ {kvs : List (Key × V)} {D : MF.D}, PySem.Paired (KvR K H) kvs D → (kvs.map fun kv => kV kv.1) = (D.map (·.1)).map V.int
  | _, _, .nil => rfl
  | _, _, .cons h t => by
    rw [List.map_cons, List.map_cons, List.map_cons, kv_keysV t, h.1]
    rfl
theorem sorted_keys {D : MF.D} {ys : List Int} (hn : ND D) (hp : ys.Perm (D.map (·.1))) (hs : ys.Pairwise (· ≤ ·)) : ys.Pairwise (· < ·) ∧ (∀ n, n ∈ ys ↔ has D n = true) ∧ ys.length = D.length := by
  refine ⟨?_, fun n => by rw [hp.mem_iff, has_mem], by rw [hp.length_eq, List.length_map]⟩
  have nd : ys.Nodup := hp.nodup_iff.mpr hn
  exact (hs.and nd).imp fun ⟨h1, h2⟩ => by omega
def spFormed (K : PySem.W.Frag) : Sp := fun vs H Q _ => ∃ (x d : Addr) (c : MF.P) (D : MF.D), vs = [.ref x, .ref d] ∧ Rt K H x c ∧ DictAt K H d D ∧ ND D ∧ D.length < 60 ∧ ∀ t H' rows, Same H H' → FmZ K H' t c rows → MF.Rows D rows → Q (.ref t) H'
theorem use_formed {x d : Addr} {c : MF.P} {D : MF.D} {H : Hp} {Q : VK} {E : XK} (h1 : Rt K H x c) (h2 : DictAt K H d D) (h3 : ND D) (h4 : D.length < 60) (h : ∀ t H' rows, Same H H' → FmZ K H' t c rows → MF.Rows D rows → Q (.ref t) H') : spFormed K [.ref x, .ref d] H Q E := ⟨x, d, c, D, rfl, h1, h2, h3, h4, h⟩
theorem ok_formed (T : Txt K mg) : FnOk P w K mg base CX0 1 T.f_formed T.fd_formed ["_law_constant", "_law_out"] (spFormed K) := by
  refine T.F_formed.ok sc_formed (fun vs H Q E h => ?_) (fun cdv A outer s H vs Q E hr h => ?_)
  · obtain ⟨x, d, c, D, rfl, _⟩ := h
    rfl
  · obtain ⟨x, d, c, D, rfl, hx, hd, hn, hl, h⟩ := h
    refine ⟨_, (pss_one (ps_ret (pe_tup (pa_cons (pv 0) (pa_cons (pe_callTy DT.call_tupleZ (by rfl) T.m_tuple (by decide +kernel) (pa_cons (pe_lc (own := [("_law_node", 2)]) (g := gName 2) (by rfl) sc_formed.nd (pi_list (pe_callB cr_sorted (by rfl) T.m_sorted (by decide +kernel) (pa_cons (pe_callTy (call_listD rfl) (by rfl) T.m_list (by decide +kernel) (pa_cons (pv 1) pa_nil)) pa_nil))) (blkOk_by (own := [("_law_node", 2)]) (N := N_formed) (sc := defScope s_formed) (by decide +kernel)) (fun _ _ _ _ _ => pg_name (i := 2) sc_formed.nd rfl (Or.inl rfl)) (fun _ _ _ _ _ => pts_one (pt_cmpR op_ne (pe_ix (show IxR _ (rIxT K) from ix_tup) (pe_dget (hu_of hr) (pv 1) (pv 2) (fun _ _ => rfl)) pe_int (fun _ _ => rfl)) pe_int (nomark _))) (fun _ _ _ _ _ => (pe_tup (pa_cons (pv 2) (pa_cons (pe_dget (hu_of hr) (pv 1) (pv 2) (fun _ _ => rfl)) pa_nil))))) pa_nil)) pa_nil))))), ?_⟩
    refine Z.w_start (σ' := [some (.ref x), some (.ref d), none]) rfl ?_
    walk_at "w"
    obtain ⟨kvs, k1, k2⟩ := id hd
    refine ⟨d, kvs, rfl, .inl k1, fun p hp => ?_⟩
    rw [kv_keysV k2]
    have s1 := same_of (Same.refl H) hp (o := .lst ((D.map (·.1)).map V.int))
    walk_at "w"
    refine ⟨p, D.map (·.1), rfl, .inl (.inl upd_same), by rw [List.length_map]; omega, fun ns p2 hpm hps hp2 => ?_⟩
    have s2 := same_of s1 hp2 (o := .lst (ns.map V.int))
    obtain ⟨a1, a2, a3⟩ := sorted_keys hn hpm hps
    walk_at "w"
    refine fun Dl hDl => lc_rows (K := K) (ns := ns) (.inl (.inl upd_same)) (hd.mo (.of s2)) hDl (by omega) (fun n hm => (a2 n).mp hm) (fun H3 vs s3 e3 r3 => ?_) fun n H3 R hm s3 d3 k => ?_
    case refine_2 =>
      refine Z.w_gname (σ' := [some (.ref x), some (.ref d), some (.int n)]) rfl ?_
      refine k _ rfl (fun Q q => ?_) fun R q => ?_
      · walk_at "w"
        refine w_dget d3 ((a2 n).mp hm) fun t ht => ?_
        walk_at "w"
        rename_i p3 hp3
        exact q _ _ (same_of (Same.refl _) hp3) ⟨p3, t, rfl, .inl (.inl upd_same), ht.tu (.ofS (same_of (Same.refl _) hp3))⟩
      · walk_at "w"
        refine w_dget d3 ((a2 n).mp hm) fun t ht => ?_
        have ht' : SqT K H3 t [.int (MF.get D n).1, .int (MF.get D n).2] := ht
        walk_at "w"
        have e : (!decide ((MF.get D n).1 = 0)) = decide ((MF.get D n).1 ≠ 0) := by
          by_cases z : (MF.get D n).1 = 0 <;> simp [z]
        rw [e]
        exact q
    have s4 := s2.trans s3
    walk_at "w"
    refine ⟨Dl, vs, rfl, .inl (.inl e3), fun l o hl4 hb => ?_⟩
    have s5 := same_of s4 hl4 (o := .frz o (.tup vs))
    walk_at "w"
    rename_i p6 hp6
    have s6 := same_of s5 hp6 (o := .tup [.ref x, .ref l])
    refine h _ _ (keepN D ns) s6 ⟨x, l, vs, o, .inl (.inl upd_same), hx.tu (.ofS s6), upd_of hp6 upd_same, hb, r3.tu (.ofS (same_of (same_of (Same.refl _) hl4) hp6))⟩ (rows_mk a1 a2)
end
end L

namespace L
open PySem PySem.Spec PyProof.Rows L2 Z M MF DT
section
variable {P : Program} {w : World} {K : PySem.W.Frag} {mg : Str → Option Value} {base : Heap}
/-- a form is drawn -/
def FoEnd (K : PySem.W.Frag) (q : Addr) (n : Nat) (H : Hp) (Q : VK) : Prop := ∀ t c d H', PX q H H' → FmZ K H' t c d → Fo 61 c d → d.length ≤ n → Q (.ref t) H'
def spFirst (K : PySem.W.Frag) : Sp := fun vs H Q _ => ∃ (q : Addr) (l : Bool), vs = [.ref q, .bl l] ∧ PoolAt H q ∧ FoEnd K q 12 H Q
theorem use_first {q : Addr} {l : Bool} {H : Hp} {Q : VK} {E : XK} (h : PoolAt H q) (hq : FoEnd K q 12 H Q) : spFirst K [.ref q, .bl l] H Q E := ⟨q, l, rfl, h, hq⟩
theorem bdl {D : MF.D} {c : MF.P} {n : Nat} {k : Int} (h : ND D ∧ AllBd 61 D ∧ D.length ≤ n) (hc : Bd 61 c) : ND (put D k c) ∧ AllBd 61 (put D k c) ∧ (put D k c).length ≤ n + 1 := ⟨nd_put h.1 _ _, bd_put h.2.1 hc, Nat.le_trans (put_len _ _ _) (by omega)⟩
theorem nd_nil : ND [] := List.Pairwise.nil
theorem ok_first (T : Txt K mg) : FnOk P w K mg base CX0 5 T.f_first T.fd_first ["_law_pool_here", "_law_long"] (spFirst K) := by
  have G_take := ok_take (P := P) (w := w) (base := base) T
  have G_factor := ok_factor (P := P) (w := w) (base := base) T
  have G_Lratio := ok_Lratio (P := P) (w := w) (base := base) T
  have G_formed := ok_formed (P := P) (w := w) (base := base) T
  refine T.F_first.ok sc_first (fun vs H Q E h => ?_) (fun cdv A outer s H vs Q E hr h => ?_)
  · obtain ⟨q, l, rfl, _⟩ := h
    rfl
  · obtain ⟨q, l, rfl, hp, h⟩ := h
    refine ⟨_, (pss_cons (ps_set (i := 2) sc_first.nd rfl (.inl rfl) (pe_call G_take (hr.mono (by decide)) (by rfl) T.g_take T.F_take.kp T.b_take .nil pass0 (pa_cons (pv 0) (pa_cons (pe_op op_sub pe_int (pe_op op_mul pe_int (pe_callTy call_int1 (by rfl) T.m_int (by decide +kernel) (pa_cons (pv 1) pa_nil)))) pa_nil))))
 (pss_cons (ps_if (PW.pt (pw_and (pt_cmpR op_eq (pe_call G_take (hr.mono (by decide)) (by rfl) T.g_take T.F_take.kp T.b_take .nil pass0 (pa_cons (pv 0) (pa_cons pe_int pa_nil))) pe_int (nomark _)) (pw_and1 (pt_not (pt_val (pv 1)))))) (pss_one (ps_set (i := 2) sc_first.nd rfl (.inl rfl) (pe_op op_add pe_int (pe_call G_take (hr.mono (by decide)) (by rfl) T.g_take T.F_take.kp T.b_take .nil pass0 (pa_cons (pv 0) (pa_cons pe_int pa_nil)))))) pss_nil)
 (pss_cons (ps_set (i := 3) sc_first.nd rfl (.inl rfl) pe_dnewK)
 (pss_cons (ps_set (i := 4) sc_first.nd rfl (.inl rfl) pe_int)
 (pss_cons (ps_for PassesOwn.never rfl (pi_range1 (by rfl) T.m_range (pa_cons (pv 2) pa_nil)) (pg_name (i := 5) sc_first.nd rfl (.inl rfl)) (pss_cons (ps_set (i := 6) sc_first.nd rfl (.inl rfl) (pe_call G_take (hr.mono (by decide)) (by rfl) T.g_take T.F_take.kp T.b_take .nil pass0 (pa_cons (pv 0) (pa_cons pe_int pa_nil))))
 (pss_cons (ps_set (i := 4) sc_first.nd rfl (.inl rfl) (pe_op op_add (pe_op op_add (pv 4) pe_int) (pe_op op_mul (pv 6) (pe_call G_take (hr.mono (by decide)) (by rfl) T.g_take T.F_take.kp T.b_take .nil pass0 (pa_cons (pv 0) (pa_cons pe_int pa_nil))))))
 (pss_one (ps_dput (hu_of hr) (pv 3) (pv 4) (pe_call G_factor (hr.mono (by decide)) (by rfl) T.g_factor T.F_factor.kp T.b_factor .nil pass0 (pa_cons (pv 0) (pa_cons (pv 1) pa_nil))) rfl)))))
 (pss_one (ps_ret (pe_call G_formed (hr.mono (by decide)) (by rfl) T.g_formed T.F_formed.kp T.b_formed .nil pass0 (pa_cons (pe_call G_Lratio (hr.mono (by decide)) (by rfl) T.g_Lratio T.F_Lratio.kp T.b_Lratio .nil pass0 (pa_cons (pv 0) (pa_cons (pv 1) pa_nil))) (pa_cons (pv 3) pa_nil)))))))))), ?_⟩
    refine Z.w_start (σ' := [some (.ref q), some (.bl l), none, none, none, none, none]) rfl ?_
    have hk : (if l = true then (1 : Int) else 0) ≤ 1 ∧ 0 ≤ (if l = true then (1 : Int) else 0) := by split <;> decide
    repeat' (first | with_reducible refine seqIf (fun σ' H' => ∃ m : Int, σ' = [some (.ref q), some (.bl l), some (.int m), none, none, none, none] ∧ PX q H H' ∧ 0 ≤ m ∧ m ≤ 12) (fun R kk => ?_) ?_ | walk_at "w1")
    · rename_i m H1 p1 m0 m1 r2 H2 p2 r20 r21
      walk_at "wi"
      · walk_at "w"
        walk_at "wi"
        · walk_at "w"
          exact kk _ _ ⟨_, rfl, (p1.trans p2).trans (by assumption), by omega, by omega⟩
        · walk_at "w"
          exact kk _ _ ⟨_, rfl, p1.trans p2, by omega, by omega⟩
      · walk_at "w"
        exact kk _ _ ⟨_, rfl, p1.trans p2, by omega, by omega⟩
    · rintro σ1 H1 ⟨m, rfl, p1, m0, m1⟩
      walk_at "w"
      rename_i dd hdd
      refine ⟨by omega, by omega, ?_⟩
      refine for_range (lo := 0) (n := m.toNat) (fun i σ H' => ∃ (nd : Int) (x5 x6 : Option V) (D : MF.D), σ = [some (.ref q), some (.bl l), some (.int m), some (.ref dd), some (.int nd), x5, x6] ∧ PX q H1 H' ∧ DictAt K H' dd D ∧ ND D ∧ AllBd 61 D ∧ D.length ≤ i) ?_ ?_ ?_
      · exact ⟨_, _, _, [], rfl, (PX.refl p1.2).new hdd, .nil, nd_nil, (fun _ h => nomatch h), Nat.le_refl _⟩
      · rintro i σ H' hi ⟨nd, x5, x6, D, rfl, p2, hD, a1, a2, a3⟩
        walk_at "w"
        rename_i r3 H3 p3 r30 r31 r4 H4 p4 r40 r41
        refine use_lr p4.2 fun v a H5 p5 hv hb => ?_
        have p6 := (p3.trans p4).trans p5
        walk_at "w"
        refine w_dput (n := _) (hD.mo p6.1) (by omega) hv fun kvs o e1 e2 => ?_
        obtain ⟨b1, b2, b3⟩ := bdl (n := i) (k := nd + 1 + r3 * r4) ⟨a1, a2, a3⟩ hb
        exact ⟨_, _, _, _, rfl, (p2.trans p6).dict hdd e1 rfl, e2, b1, b2, b3⟩
      · rintro σ H' ⟨nd, x5, x6, D, rfl, p2, hD, a1, a2, a3⟩
        walk_at "w"
        refine use_lr p2.2 fun v a H5 p5 ⟨t, e, ht⟩ hb => ?_
        subst e
        walk_at "w"
        refine use_formed ht (hD.mo p5.1) a1 (by omega) fun t2 H6 rows s6 hf hrw => ?_
        exact h _ _ _ _ (((p1.trans p2).trans p5).same s6) hf (.of hb a1 a2 hrw) (Nat.le_trans (rows_len a1 hrw) (by omega))
/-! second: rows of the first form again, in a drawn way, and others -/
theorem bd_neg {n : Nat} {a : MF.P} (h : Bd n a) : Bd n (-a.1, a.2) := ⟨⟨h.1.1, by show Nat.gcd (-a.1).natAbs a.2.natAbs = 1; rw [Int.natAbs_neg]; exact h.1.2⟩, by show (-a.1).natAbs < _; rw [Int.natAbs_neg]; exact h.2.1, h.2.2⟩
def spSecond (K : PySem.W.Frag) : Sp := fun vs H Q _ => ∃ (q f : Addr) (l : Bool) (c : MF.P) (d : MF.D), vs = [.ref q, .bl l, .ref f] ∧ PoolAt H q ∧ Fm K H f c d ∧ Fo 61 c d ∧ d.length ≤ 12 ∧ FoEnd K q 19 H Q
theorem use_second {q f : Addr} {l : Bool} {c : MF.P} {d : MF.D} {H : Hp} {Q : VK} {E : XK} (h1 : PoolAt H q) (h2 : Fm K H f c d) (h3 : Fo 61 c d) (h4 : d.length ≤ 12) (h : FoEnd K q 19 H Q) : spSecond K [.ref q, .bl l, .ref f] H Q E := ⟨q, f, l, c, d, rfl, h1, h2, h3, h4, h⟩
theorem ok_second (T : Txt K mg) : FnOk P w K mg base CX0 5 T.f_second T.fd_second ["_law_pool_here", "_law_long", "_law_f"] (spSecond K) := by
  have G_take := ok_take (P := P) (w := w) (base := base) T
  have G_factor := ok_factor (P := P) (w := w) (base := base) T
  have G_Lratio := ok_Lratio (P := P) (w := w) (base := base) T
  have G_formed := ok_formed (P := P) (w := w) (base := base) T
  refine T.F_second.ok sc_second (fun vs H Q E h => ?_) (fun cdv A outer s H vs Q E hr h => ?_)
  · obtain ⟨q, f, l, c, d, rfl, _⟩ := h
    rfl
  · obtain ⟨q, f, l, c, d, rfl, hp, ⟨tc, tr, rs, f1, f2, f3, f4⟩, hfo, hd12, h⟩ := h
    refine ⟨_, (pss_cons (ps_set (i := 3) sc_second.nd rfl (.inl rfl) pe_dnewK)
 (pss_cons (ps_for PassesOwn.never rfl (pi_tup (pe_ix ix_tup (pv 2) pe_int (fun _ _ => rfl))) (pg_name (i := 4) sc_second.nd rfl (.inl rfl)) (pss_cons (ps_set (i := 5) sc_second.nd rfl (.inl rfl) (pe_call G_take (hr.mono (by decide)) (by rfl) T.g_take T.F_take.kp T.b_take .nil pass0 (pa_cons (pv 0) (pa_cons pe_int pa_nil))))
 (pss_cons (ps_if (pt_cmpR op_eq (pv 5) pe_int (nomark _)) (pss_one (ps_dput (hu_of hr) (pv 3) (pe_ix ix_tup (pv 4) pe_int (fun _ _ => rfl)) (pe_tup (pa_cons (pe_un un_neg (pe_ix ix_tup (pe_ix ix_tup (pv 4) pe_int (fun _ _ => rfl)) pe_int (fun _ _ => rfl))) (pa_cons (pe_ix ix_tup (pe_ix ix_tup (pv 4) pe_int (fun _ _ => rfl)) pe_int (fun _ _ => rfl)) pa_nil))) rfl)) pss_nil)
 (pss_cons (ps_if (pt_cmpR op_eq (pv 5) pe_int (nomark _)) (pss_one (ps_dput (hu_of hr) (pv 3) (pe_ix ix_tup (pv 4) pe_int (fun _ _ => rfl)) (pe_ix ix_tup (pv 4) pe_int (fun _ _ => rfl)) rfl)) pss_nil)
 (pss_one (ps_if (pt_cmpR op_eq (pv 5) pe_int (nomark _)) (pss_one (ps_dput (hu_of hr) (pv 3) (pe_ix ix_tup (pv 4) pe_int (fun _ _ => rfl)) (pe_call G_factor (hr.mono (by decide)) (by rfl) T.g_factor T.F_factor.kp T.b_factor .nil pass0 (pa_cons (pv 0) (pa_cons (pv 1) pa_nil))) rfl)) pss_nil))))))
 (pss_cons (ps_set (i := 6) sc_second.nd rfl (.inl rfl) (pe_call G_take (hr.mono (by decide)) (by rfl) T.g_take T.F_take.kp T.b_take .nil pass0 (pa_cons (pv 0) (pa_cons (pe_op op_sub pe_int (pe_op op_mul pe_int (pe_callTy call_int1 (by rfl) T.m_int (by decide +kernel) (pa_cons (pv 1) pa_nil)))) pa_nil))))
 (pss_cons (ps_if (PW.pt (pw_and (pt_cmpR op_eq (pe_call G_take (hr.mono (by decide)) (by rfl) T.g_take T.F_take.kp T.b_take .nil pass0 (pa_cons (pv 0) (pa_cons pe_int pa_nil))) pe_int (nomark _)) (pw_and1 (pt_not (pt_val (pv 1)))))) (pss_one (ps_set (i := 6) sc_second.nd rfl (.inl rfl) (pe_op op_add pe_int (pe_call G_take (hr.mono (by decide)) (by rfl) T.g_take T.F_take.kp T.b_take .nil pass0 (pa_cons (pv 0) (pa_cons pe_int pa_nil)))))) pss_nil)
 (pss_cons (ps_for PassesOwn.never rfl (pi_range1 (by rfl) T.m_range (pa_cons (pv 6) pa_nil)) (pg_name (i := 7) sc_second.nd rfl (.inl rfl)) (pss_cons (ps_set (i := 8) sc_second.nd rfl (.inl rfl) (pe_op op_add pe_int (pe_call G_take (hr.mono (by decide)) (by rfl) T.g_take T.F_take.kp T.b_take .nil pass0 (pa_cons (pv 0) (pa_cons pe_int pa_nil)))))
 (pss_one (ps_dput (hu_of hr) (pv 3) (pv 8) (pe_call G_factor (hr.mono (by decide)) (by rfl) T.g_factor T.F_factor.kp T.b_factor .nil pass0 (pa_cons (pv 0) (pa_cons (pv 1) pa_nil))) rfl))))
 (pss_cons (ps_set (i := 9) sc_second.nd rfl (.inl rfl) (pe_call G_Lratio (hr.mono (by decide)) (by rfl) T.g_Lratio T.F_Lratio.kp T.b_Lratio .nil pass0 (pa_cons (pv 0) (pa_cons (pv 1) pa_nil))))
 (pss_cons (ps_if (pt_cmpR op_eq (pe_call G_take (hr.mono (by decide)) (by rfl) T.g_take T.F_take.kp T.b_take .nil pass0 (pa_cons (pv 0) (pa_cons pe_int pa_nil))) pe_int (nomark _)) (pss_one (ps_set (i := 9) sc_second.nd rfl (.inl rfl) (pe_tup (pa_cons (pe_un un_neg (pe_ix ix_tup (pe_ix ix_tup (pv 2) pe_int (fun _ _ => rfl)) pe_int (fun _ _ => rfl))) (pa_cons (pe_ix ix_tup (pe_ix ix_tup (pv 2) pe_int (fun _ _ => rfl)) pe_int (fun _ _ => rfl)) pa_nil))))) pss_nil)
 (pss_one (ps_ret (pe_call G_formed (hr.mono (by decide)) (by rfl) T.g_formed T.F_formed.kp T.b_formed .nil pass0 (pa_cons (pv 9) (pa_cons (pv 3) pa_nil)))))))))))), ?_⟩
    refine Z.w_start (σ' := [some (.ref q), some (.bl l), some (.ref f), none, none, none, none, none, none, none]) rfl ?_
    have hk : (if l = true then (1 : Int) else 0) ≤ 1 ∧ 0 ≤ (if l = true then (1 : Int) else 0) := by split <;> decide
    walk_at "w"
    rename_i dd hdd
    have s0 := same_of (Same.refl H) hdd (o := .dK [])
    have f1' := sqT_tu f1 (.ofS s0)
    walk_at "w"
    refine for_tup (K := K) (xs := rs) (fun i σ H' => ∃ (x4 x5 : Option V) (D : MF.D), σ = [some (.ref q), some (.bl l), some (.ref f), some (.ref dd), x4, x5, none, none, none, none] ∧ PX q H H' ∧ DictAt K H' dd D ∧ ND D ∧ AllBd 61 D ∧ D.length ≤ i ∧ i ≤ 12) ?_ ?_ ?_ ?_
    · exact ⟨_, _, [], rfl, (PX.refl hp).new hdd, .nil, nd_nil, (fun _ h => nomatch h), Nat.le_refl _, by decide⟩
    · rintro i σ H' _ ⟨x4, x5, D, rfl, p1, _⟩
      exact sqT_tu f3 (.of p1.1)
    · rintro i x σ H' hx ⟨x4, x5, D, rfl, p1, hD, a1, a2, a3, a4⟩
      obtain ⟨r, hr1, t, c1, rfl, w1, w2⟩ := f4.get hx
      have hi : i < d.length := (List.getElem?_eq_some_iff.mp hr1).1
      have hbr := hfo.b r (List.mem_of_getElem? hr1)
      have hif : ∀ (way j : Int) (Hb : Hp) (Db : MF.D) (v : V) (cc : MF.P) (hway : way = j), PX q H Hb → DictAt K Hb dd Db → ND Db → AllBd 61 Db → (Db.length ≤ i ∨ (way ≤ j - 1 ∧ Db.length ≤ i + 1)) → RtV K Hb v cc → Bd 61 cc → ∀ R : Hp → Prop, (∀ H', (∃ D', PX q H H' ∧ DictAt K H' dd D' ∧ ND D' ∧ AllBd 61 D' ∧ (D'.length ≤ i ∨ (way ≤ j ∧ D'.length ≤ i + 1))) → R H') → ∃ a H4, V.ref dd = .ref a ∧ DPut Hb a (.int r.1) v H4 ∧ R H4 := by
        intro way j Hb Db v cc hway pb db n1 n2 n3 hv hb R hR
        have n4 : Db.length ≤ i := by omega
        refine w_dput db (by omega) hv fun kvs o e1 e2 => hR _ ?_
        obtain ⟨b1, b2, b3⟩ := bdl (n := i) (k := r.1) ⟨n1, n2, n4⟩ hb
        exact ⟨_, pb.dict hdd e1 rfl, e2, b1, b2, .inr ⟨by omega, b3⟩⟩
      repeat' (first | with_reducible refine seqIf (fun σ' H' => ∃ (way : Int) (D' : MF.D), σ' = [some (.ref q), some (.bl l), some (.ref f), some (.ref dd), some (.ref t), some (.int way), none, none, none, none] ∧ PX q H H' ∧ DictAt K H' dd D' ∧ ND D' ∧ AllBd 61 D' ∧ (D'.length ≤ i ∨ (way ≤ 0 ∧ D'.length ≤ i + 1))) (fun R kk => ?_) ?_ | walk_at "w1")
      rename_i way H2 p2 y0 y1
      have p3 := p1.trans p2
      have hD2 := hD.mo p2.1
      · have w1' := sqT_tu w1 (.of p3.1)
        have w2' : SqT K H2 c1 [.int r.2.1, .int r.2.2] := w2.tu (.of p3.1)
        walk_at "w"
        walk_at "wi"
        · rename_i hz
          walk_at "w"
          rename_i t3 ht3
          have s3 := same_of (Same.refl H2) ht3 (o := .tup [.int (-r.2.1), .int r.2.2])
          have w1' := sqT_tu w1' (.ofS s3)
          walk_at "w"
          refine hif way 0 _ D _ (-r.2.1, r.2.2) hz (p3.new ht3) (hD2.mo (.of s3)) a1 a2 (.inl a3) ⟨t3, rfl, .new (a := (-r.2.1, r.2.2))⟩ (bd_neg hbr) _ fun H' ⟨D', z1, z2⟩ => kk _ _ ⟨way, D', rfl, z1, z2⟩
        · walk_at "w"
          exact kk _ _ ⟨way, D, rfl, p3, hD2, a1, a2, .inl a3⟩
      · rintro σ3 H3 ⟨way, D3, rfl, p4, d4, b1, b2, b3⟩
        refine seqIf (fun σ' H' => ∃ (way : Int) (D' : MF.D), σ' = [some (.ref q), some (.bl l), some (.ref f), some (.ref dd), some (.ref t), some (.int way), none, none, none, none] ∧ PX q H H' ∧ DictAt K H' dd D' ∧ ND D' ∧ AllBd 61 D' ∧ (D'.length ≤ i ∨ (way ≤ 1 ∧ D'.length ≤ i + 1))) (fun R kk => ?_) ?_
        · have w1' := sqT_tu w1 (.of p4.1)
          walk_at "w"
          walk_at "wi"
          · rename_i hz
            walk_at "w"
            refine hif way 1 _ D3 _ r.2 hz p4 d4 b1 b2 b3 ⟨c1, rfl, w2.tu (.of p4.1)⟩ hbr _ fun H' ⟨D', z1, z2⟩ => kk _ _ ⟨way, D', rfl, z1, z2⟩
          · walk_at "w"
            exact kk _ _ ⟨way, D3, rfl, p4, d4, b1, b2, by omega⟩
        · rintro σ5 H5 ⟨way, D5, rfl, p6, d6, g1, g2, g3⟩
          have w1' := sqT_tu w1 (.of p6.1)
          walk_at "w"
          walk_at "wi"
          · rename_i hz
            walk_at "w"
            refine use_lr p6.2 fun v a H7 p7 hv hb => ?_
            have w1' := sqT_tu w1' (.of p7.1)
            walk_at "w"
            refine hif way 2 _ D5 _ a hz (p6.trans p7) (d6.mo p7.1) g1 g2 g3 hv hb _ fun H' ⟨D', z1, z2, z3, z4, z5⟩ => ⟨_, _, D', rfl, z1, z2, z3, z4, by omega, by omega⟩
          · walk_at "w"
            exact ⟨_, _, D5, rfl, p6, d6, g1, g2, by omega, by omega⟩
    · rintro σ1 H1 ⟨x4, x5, D, rfl, p1, hD, a1, a2, a3, a4⟩
      repeat' (first | with_reducible refine seqIf (fun σ' H' => ∃ m : Int, σ' = [some (.ref q), some (.bl l), some (.ref f), some (.ref dd), x4, x5, some (.int m), none, none, none] ∧ PX q H1 H' ∧ 0 ≤ m ∧ m ≤ 7) (fun R kk => ?_) ?_ | walk_at "w1")
      · rename_i m H2 p2 m0 m1 r2 H3 p3 r20 r21
        walk_at "wi"
        · walk_at "w"
          walk_at "wi"
          · walk_at "w"
            exact kk _ _ ⟨_, rfl, (p2.trans p3).trans (by assumption), by omega, by omega⟩
          · walk_at "w"
            exact kk _ _ ⟨_, rfl, p2.trans p3, by omega, by omega⟩
        · walk_at "w"
          exact kk _ _ ⟨_, rfl, p2.trans p3, by omega, by omega⟩
      · rintro σ2 H2 ⟨m, rfl, p2, m0, m1⟩
        have hD2 := hD.mo p2.1
        walk_at "w"
        refine ⟨by omega, by omega, ?_⟩
        have pz := p1.trans p2
        refine for_range (lo := 0) (n := m.toNat) (fun i σ H' => ∃ (x7 x8 : Option V) (D : MF.D), σ = [some (.ref q), some (.bl l), some (.ref f), some (.ref dd), x4, x5, some (.int m), x7, x8, none] ∧ PX q H H' ∧ DictAt K H' dd D ∧ ND D ∧ AllBd 61 D ∧ D.length ≤ 12 + i) ?_ ?_ ?_
        · exact ⟨_, _, D, rfl, pz, hD2, a1, a2, by omega⟩
        · rintro i σ H' hi ⟨x7, x8, D, rfl, p3, hD, a1, a2, a3⟩
          walk_at "w"
          rename_i r4 H4 p4 r40 r41
          refine use_lr p4.2 fun v a H5 p5 hv hb => ?_
          have p6 := p4.trans p5
          walk_at "w"
          refine w_dput (n := _) (hD.mo p6.1) (by omega) hv fun kvs o e1 e2 => ?_
          obtain ⟨b1, b2, b3⟩ := bdl (n := 12 + i) (k := 1 + r4) ⟨a1, a2, a3⟩ hb
          exact ⟨_, _, _, rfl, (p3.trans p6).dict hdd e1 rfl, e2, b1, b2, b3⟩
        · rintro σ H' ⟨x7, x8, D, rfl, p3, hD, a1, a2, a3⟩
          walk_at "w"
          refine use_lr p3.2 fun v a H5 p5 ⟨t, e, ht⟩ hb => ?_
          subst e
          have p6 := p3.trans p5
          have hD5 := hD.mo p5.1
          repeat' (first | with_reducible refine seqIf (fun σ' H' => ∃ (t : Addr) (a : MF.P), σ' = [some (.ref q), some (.bl l), some (.ref f), some (.ref dd), x4, x5, some (.int m), x7, x8, some (.ref t)] ∧ PX q H H' ∧ DictAt K H' dd D ∧ Rt K H' t a ∧ Bd 61 a) (fun R kk => ?_) ?_ | walk_at "w1")
          · rename_i r6 H6 p7 r60 r61
            have p8 := p6.trans p7
            walk_at "wi"
            · have g1 := sqT_tu f1 (.of p8.1)
              have g2 : SqT K H6 tc [.int c.1, .int c.2] := f2.tu (.of p8.1)
              walk_at "w"
              rename_i t9 ht9
              exact kk _ _ ⟨t9, (-c.1, c.2), rfl, p8.new ht9, (hD5.mo p7.1).mo ((Mo.refl _).new ht9), .new (a := (-c.1, c.2)), bd_neg hfo.c⟩
            · walk_at "w"
              exact kk _ _ ⟨t, a, rfl, p8, hD5.mo p7.1, ht.tu (.of p7.1), hb⟩
          · rintro σ8 H8 ⟨t, a, rfl, p9, d9, ht9, hb9⟩
            walk_at "w"
            refine use_formed ht9 d9 a1 (by omega) fun t2 H6 rows s6 hf hrw => ?_
            exact h _ _ _ _ (p9.same s6) hf (.of hb9 a1 a2 hrw) (Nat.le_trans (rows_len a1 hrw) (by omega))
end
end L

namespace L
open PySem PySem.Spec PyProof.Rows L2 Z M MF DT
section
variable {P : Program} {w : World} {K : PySem.W.Frag} {mg : Str → Option Value} {base : Heap}
theorem bd_way {r : Int} (h0 : 0 ≤ r) (h1 : r < 3) : Bd 61 (r - 1, 1) := ⟨lw_int _, by show (r - 1).natAbs < _; omega, by show (1 : Int).natAbs < _; decide⟩
theorem ok_some (T : Txt K mg) : FnOk P w K mg base CX0 4 T.f_some T.fd_some ["_law_pool_here", "_law_long"] (spLr K) := by
  have G_take := ok_take (P := P) (w := w) (base := base) T
  have G_Lratio := ok_Lratio (P := P) (w := w) (base := base) T
  refine T.F_some.ok sc_some (fun vs H Q E h => ?_) (fun cdv A outer s H vs Q E hr h => ?_)
  · obtain ⟨q, l, rfl, _⟩ := h
    rfl
  · obtain ⟨q, l, rfl, hp, h⟩ := h
    refine ⟨_, (pss_cons (ps_set (i := 2) sc_some.nd rfl (.inl rfl) (pe_call G_take (hr.mono (by decide)) (by rfl) T.g_take T.F_take.kp T.b_take .nil pass0 (pa_cons (pv 0) (pa_cons pe_int pa_nil))))
 (pss_cons (ps_if (pt_cmpR op_lt (pv 2) pe_int (nomark _)) (pss_one (ps_ret (pe_tup (pa_cons (pe_op op_sub (pv 2) pe_int) (pa_cons pe_int pa_nil))))) pss_nil)
 (pss_one (ps_ret (pe_call G_Lratio (hr.mono (by decide)) (by rfl) T.g_Lratio T.F_Lratio.kp T.b_Lratio .nil pass0 (pa_cons (pv 0) (pa_cons (pv 1) pa_nil))))))), ?_⟩
    refine Z.w_start (σ' := [some (.ref q), some (.bl l), none]) rfl ?_
    walk_at "w"
    rename_i r1 H1 p1 h0 h1
    walk_at "wi"
    · rename_i hw
      walk_at "w"
      rename_i t ht
      exact h _ _ _ (p1.new ht) ⟨t, rfl, .new (a := (r1 - 1, 1))⟩ (bd_way h0 hw)
    · walk_at "w"
      exact use_lr p1.2 fun v a H2 p2 hv hb => h _ _ _ (p1.trans p2) hv hb
theorem w_catA {a b : Addr} {xs ys : List V} {H : Hp} {Q : VK} (h1 : SqT K H a xs) (h2 : SqT K H b ys) (hl : xs.length + ys.length ≤ 1000) (q : ∀ u H', Same H H' → SqT K H' u (xs ++ ys) → Q (.ref u) H') : rCatA K (.ref a) (.ref b) H Q := by
  refine ⟨a, b, xs, ys, rfl, rfl, h1, h2, Nat.le_trans hl (by decide), fun e => ?_, fun e e2 => ?_, fun e e2 p hp => ?_⟩
  · exact q b H (Same.refl _) (by rw [e]; exact h2)
  · exact q a H (Same.refl _) (by rw [e2, List.append_nil]; exact h1)
  · exact q p _ (same_of (Same.refl _) hp) (.inl (.inl upd_same))
theorem RowsV.app {H : Hp} : ∀ {vs ws : List V} {d e : MF.D}, RowsV K H vs d → RowsV K H ws e → RowsV K H (vs ++ ws) (d ++ e)
  | _, _, _, _, .nil, h => h
  | _, _, _, _, .cons h t, h2 => .cons h (RowsV.app t h2)
theorem has_put' {D : MF.D} {n m : Int} {c : MF.P} (h : has D m = true) : has (put D n c) m = true := by
  rw [has_put, h, Bool.or_true]
theorem has_put_self {D : MF.D} {n : Int} {c : MF.P} : has (put D n c) n = true := by
  rw [has_put, decide_eq_true rfl, Bool.true_or]
def spValues (K : PySem.W.Frag) : Sp := fun vs H Q _ => ∃ (q f g : Addr) (l : Bool) (c e : MF.P) (d d2 : MF.D), vs = [.ref q, .bl l, .ref f, .ref g] ∧ PoolAt H q ∧ Fm K H f c d ∧ Fm K H g e d2 ∧ d.length + d2.length ≤ 31 ∧
  ∀ dd D H', PX q H H' → DictAt K H' dd D → ND D → AllBd 61 D → (∀ r ∈ d ++ d2, has D r.1 = true) → Q (.ref dd) H'
theorem use_values {q f g : Addr} {l : Bool} {c e : MF.P} {d d2 : MF.D} {H : Hp} {Q : VK} {E : XK} (h1 : PoolAt H q) (h2 : Fm K H f c d) (h3 : Fm K H g e d2) (h4 : d.length + d2.length ≤ 31) (h : ∀ dd D H', PX q H H' → DictAt K H' dd D → ND D → AllBd 61 D → (∀ r ∈ d ++ d2, has D r.1 = true) → Q (.ref dd) H') : spValues K [.ref q, .bl l, .ref f, .ref g] H Q E := ⟨q, f, g, l, c, e, d, d2, rfl, h1, h2, h3, h4, h⟩
theorem ok_values (T : Txt K mg) : FnOk P w K mg base CX0 4 T.f_values T.fd_values ["_law_pool_here", "_law_long", "_law_f", "_law_g"] (spValues K) := by
  have G_take := ok_take (P := P) (w := w) (base := base) T
  have G_Lratio := ok_Lratio (P := P) (w := w) (base := base) T
  refine T.F_values.ok sc_values (fun vs H Q E h => ?_) (fun cdv A outer s H vs Q E hr h => ?_)
  · obtain ⟨q, f, g, l, c, e, d, d2, rfl, _⟩ := h
    rfl
  · obtain ⟨q, f, g, l, c, e, d, d2, rfl, hp, ⟨tc, tr, rs, f1, f2, f3, f4⟩, ⟨uc, ur, us, g1, g2, g3, g4⟩, hlen, h⟩ := h
    refine ⟨_, (pss_cons (ps_set (i := 4) sc_values.nd rfl (.inl rfl) pe_dnewK)
 (pss_cons (ps_for PassesOwn.never rfl (pi_tup (pe_op op_catA (pe_ix ix_tup (pv 2) pe_int (fun _ _ => rfl)) (pe_ix ix_tup (pv 3) pe_int (fun _ _ => rfl)))) (pg_name (i := 5) sc_values.nd rfl (.inl rfl)) (pss_one (ps_dput (hu_of hr) (pv 4) (pe_ix ix_tup (pv 5) pe_int (fun _ _ => rfl)) (pe_call G_Lratio (hr.mono (by decide)) (by rfl) T.g_Lratio T.F_Lratio.kp T.b_Lratio .nil pass0 (pa_cons (pv 0) (pa_cons (pv 1) pa_nil))) rfl)))
 (pss_cons (ps_for PassesOwn.never rfl (pi_range1 (by rfl) T.m_range (pa_cons (pe_call G_take (hr.mono (by decide)) (by rfl) T.g_take T.F_take.kp T.b_take .nil pass0 (pa_cons (pv 0) (pa_cons pe_int pa_nil))) pa_nil)) (pg_name (i := 6) sc_values.nd rfl (.inl rfl)) (pss_cons (ps_set (i := 7) sc_values.nd rfl (.inl rfl) (pe_op op_add pe_int (pe_call G_take (hr.mono (by decide)) (by rfl) T.g_take T.F_take.kp T.b_take .nil pass0 (pa_cons (pv 0) (pa_cons pe_int pa_nil)))))
 (pss_one (ps_dput (hu_of hr) (pv 4) (pv 7) (pe_call G_Lratio (hr.mono (by decide)) (by rfl) T.g_Lratio T.F_Lratio.kp T.b_Lratio .nil pass0 (pa_cons (pv 0) (pa_cons (pv 1) pa_nil))) rfl))))
 (pss_one (ps_ret (pv 4)))))), ?_⟩
    refine Z.w_start (σ' := [some (.ref q), some (.bl l), some (.ref f), some (.ref g), none, none, none, none]) rfl ?_
    walk_at "w"
    rename_i dd hdd
    have s0 := same_of (Same.refl H) hdd (o := .dK [])
    have f1' := sqT_tu f1 (.ofS s0)
    have g1' := sqT_tu g1 (.ofS s0)
    walk_at "w"
    refine w_catA (sqT_tu f3 (.ofS s0)) (sqT_tu g3 (.ofS s0)) (by rw [f4.len, g4.len]; omega) fun u H1 s1 hu => ?_
    have rr : RowsV K H1 (rs ++ us) (d ++ d2) := (f4.app g4).tu (.ofS (s0.trans s1))
    have p0 : PX q H H1 := ((PX.refl hp).new hdd).same s1
    have d0 : DictAt K H1 dd [] := DictAt.nil.mo (.of s1)
    have hl2 : (d ++ d2).length ≤ 31 := by rw [List.length_append]; exact hlen
    walk_at "w"
    refine for_tup (K := K) (xs := rs ++ us) (fun i σ H' => ∃ (x5 : Option V) (D : MF.D), σ = [some (.ref q), some (.bl l), some (.ref f), some (.ref g), some (.ref dd), x5, none, none] ∧ PX q H H' ∧ DictAt K H' dd D ∧ ND D ∧ AllBd 61 D ∧ (D.length ≤ i ∧ i ≤ 31) ∧ (∀ r ∈ (d ++ d2).take i, has D r.1 = true) ∧ SqT K H' u (rs ++ us) ∧ RowsV K H' (rs ++ us) (d ++ d2)) ?_ ?_ ?_ ?_
    · exact ⟨_, [], rfl, p0, d0, nd_nil, (fun _ h => nomatch h), ⟨Nat.le_refl _, by decide⟩, (fun _ h => by simp at h), hu, rr⟩
    · rintro i σ H' _ ⟨x5, D, rfl, p1, _, _, _, _, _, hu', _⟩
      exact hu'
    · rintro i x σ H' hx ⟨x5, D, rfl, p1, hD, a1, a2, a3, a4, hu', rr'⟩
      obtain ⟨r, hr1, t, c1, rfl, w1, w2⟩ := rr'.get hx
      have hi : i < (d ++ d2).length := (List.getElem?_eq_some_iff.mp hr1).1
      walk_at "w"
      refine use_lr p1.2 fun v a H3 p3 hv hb => ?_
      have w1' := sqT_tu w1 (.of p3.1)
      walk_at "w"
      refine w_dput (hD.mo p3.1) (by omega) hv fun kvs o e1 e2 => ?_
      obtain ⟨b1, b2, b3⟩ := bdl (n := i) (k := r.1) ⟨a1, a2, a3.1⟩ hb
      have tu := (Tu.of p3.1).trans (Tu.dict (o := o) e1)
      refine ⟨_, _, rfl, (p1.trans p3).dict hdd e1 rfl, e2, b1, b2, ⟨b3, by omega⟩, fun r' hm => ?_, sqT_tu hu' tu, rr'.tu tu⟩
      rw [List.take_add_one, hr1] at hm
      rcases List.mem_append.mp hm with z | z
      · exact has_put' (a4 r' z)
      · rw [List.mem_singleton.mp z]
        exact has_put_self
    · rintro σ H' ⟨x5, D, rfl, p1, hD, a1, a2, a3, a4, hu', rr'⟩
      have hall : ∀ r ∈ d ++ d2, has D r.1 = true := fun r hm => a4 r (by rw [rr'.len, List.take_length]; exact hm)
      walk_at "w"
      rename_i m H2 p2 m0 m1
      refine ⟨by omega, by omega, ?_⟩
      refine for_range (lo := 0) (n := m.toNat) (fun i σ H' => ∃ (x6 x7 : Option V) (D : MF.D), σ = [some (.ref q), some (.bl l), some (.ref f), some (.ref g), some (.ref dd), x5, x6, x7] ∧ PX q H H' ∧ DictAt K H' dd D ∧ ND D ∧ AllBd 61 D ∧ D.length ≤ 31 + i ∧ (∀ r ∈ d ++ d2, has D r.1 = true)) ?_ ?_ ?_
      · exact ⟨_, _, D, rfl, p1.trans p2, hD.mo p2.1, a1, a2, by omega, hall⟩
      · rintro i σ H' hi ⟨x6, x7, D, rfl, p3, hD, a1, a2, a3, a4⟩
        walk_at "w"
        rename_i r4 H4 p4 r40 r41
        refine use_lr p4.2 fun v a H5 p5 hv hb => ?_
        have p6 := p4.trans p5
        walk_at "w"
        refine w_dput (n := _) (hD.mo p6.1) (by omega) hv fun kvs o e1 e2 => ?_
        obtain ⟨b1, b2, b3⟩ := bdl (n := 31 + i) (k := 1 + r4) ⟨a1, a2, a3⟩ hb
        exact ⟨_, _, _, rfl, (p3.trans p6).dict hdd e1 rfl, e2, b1, b2, b3, fun r hm => has_put' (a4 r hm)⟩
      · rintro σ H' ⟨x6, x7, D, rfl, p3, hD, a1, a2, a3, a4⟩
        walk_at "w"
        exact h _ _ _ p3 hD a1 a2 a4
/-! sums, multiples, values -/
theorem mergeD_len : ∀ {d acc : MF.D}, (mergeD acc d).length ≤ acc.length + d.length
  | [], _ => Nat.le_refl _
  | r :: d, acc => by
    have h1 := mergeD_len (d := d) (acc := put acc r.1 r.2)
    have h2 := put_len acc r.1 r.2
    show (mergeD (put acc r.1 r.2) d).length ≤ _
    rw [List.length_cons]
    omega
theorem nd_take {d : MF.D} (h : ND d) (i : Nat) : ND (d.take i) := by
  unfold ND
  rw [List.map_take]
  exact List.Nodup.sublist (List.take_sublist _ _) h
theorem bd_take {n : Nat} {d : MF.D} (h : AllBd n d) (i : Nat) : AllBd n (d.take i) := fun r hr => h r (List.mem_of_mem_take hr)
def spSum (K : PySem.W.Frag) (z : Bool) : Sp := fun vs H Q _ => ∃ (f g : Addr) (c e : MF.P) (d d2 : MF.D), vs = [.ref f, .ref g] ∧ FmZ K H f c d ∧ Fm K H g e d2 ∧ Fo 62 c d ∧ Fo 62 e d2 ∧ d.length ≤ 19 ∧ d2.length ≤ 19 ∧
  ∀ t H' rows, Same H H' → (z = true → FmZ K H' t (add c e) rows) → Fm K H' t (add c e) rows → MF.Rows (sumD d d2) rows → Q (.ref t) H'
theorem use_sum {z : Bool} {f g : Addr} {c e : MF.P} {d d2 : MF.D} {H : Hp} {Q : VK} {E : XK} (h1 : FmZ K H f c d) (h2 : Fm K H g e d2) (h3 : Fo 62 c d) (h4 : Fo 62 e d2) (h5 : d.length ≤ 19) (h6 : d2.length ≤ 19)
    (h : ∀ t H' rows, Same H H' → (z = true → FmZ K H' t (add c e) rows) → Fm K H' t (add c e) rows → MF.Rows (sumD d d2) rows → Q (.ref t) H') : spSum K z [.ref f, .ref g] H Q E := ⟨f, g, c, e, d, d2, rfl, h1, h2, h3, h4, h5, h6, h⟩
theorem sum_nd {n : Nat} {c e : MF.P} {d d2 : MF.D} (h3 : Fo n c d) (h4 : Fo n e d2) : ND (sumD d d2) := (sumD_facts h3.nd h3.b.lw h4.b.lw).1
theorem ok_summed (T : Txt K mg) : FnOk P w K mg base CX0 3 T.f_summed T.fd_summed ["_law_f", "_law_g"] (spSum K true) := by
  have G_add := ok_add (P := P) (w := w) (base := base) T
  have G_formed := ok_formed (P := P) (w := w) (base := base) T
  refine T.F_summed.ok sc_summed (fun vs H Q E h => ?_) (fun cdv A outer s H vs Q E hr h => ?_)
  · obtain ⟨f, g, c, e, d, d2, rfl, _⟩ := h
    rfl
  · obtain ⟨f, g, c, e, d, d2, rfl, hf, ⟨uc, ur, us, g1, g2, g3, g4⟩, o1, o2, l1, l2, h⟩ := h
    obtain ⟨tc, tr, rs, f1, f2, f3, f4⟩ := hf.fm
    refine ⟨_, (pss_cons (ps_set (i := 2) sc_summed.nd rfl (.inl rfl) pe_dnewK)
 (pss_cons (ps_for PassesOwn.never rfl (pi_tup (pe_ix ix_tup (pv 0) pe_int (fun _ _ => rfl))) (pg_name (i := 3) sc_summed.nd rfl (.inl rfl)) (pss_one (ps_dput (hu_of hr) (pv 2) (pe_ix ix_tup (pv 3) pe_int (fun _ _ => rfl)) (pe_ix ix_tup (pv 3) pe_int (fun _ _ => rfl)) rfl)))
 (pss_cons (ps_for PassesOwn.never rfl (pi_tup (pe_ix ix_tup (pv 1) pe_int (fun _ _ => rfl))) (pg_name (i := 3) sc_summed.nd rfl (.inl rfl)) (pss_one (ps_dput (hu_of hr) (pv 2) (pe_ix ix_tup (pv 3) pe_int (fun _ _ => rfl)) (pe_call G_add (hr.mono (by decide)) (by rfl) T.g_add T.F_add.kp T.b_add .nil pass0 (pa_cons (pe_dget2 (hu_of hr) (pv 2) (pe_ix ix_tup (pv 3) pe_int (fun _ _ => rfl)) (pe_tup (pa_cons pe_int (pa_cons pe_int pa_nil))) ⟨rfl, rfl, rfl, rfl⟩) (pa_cons (pe_ix ix_tup (pv 3) pe_int (fun _ _ => rfl)) pa_nil))) rfl)))
 (pss_one (ps_ret (pe_call G_formed (hr.mono (by decide)) (by rfl) T.g_formed T.F_formed.kp T.b_formed .nil pass0 (pa_cons (pe_call G_add (hr.mono (by decide)) (by rfl) T.g_add T.F_add.kp T.b_add .nil pass0 (pa_cons (pe_ix ix_tup (pv 0) pe_int (fun _ _ => rfl)) (pa_cons (pe_ix ix_tup (pv 1) pe_int (fun _ _ => rfl)) pa_nil))) (pa_cons (pv 2) pa_nil)))))))), ?_⟩
    refine Z.w_start (σ' := [some (.ref f), some (.ref g), none, none]) rfl ?_
    walk_at "w"
    rename_i dd hdd
    have s0 := same_of (Same.refl H) hdd (o := .dK [])
    have f1' := sqT_tu f1 (.ofS s0)
    have f3' := sqT_tu f3 (.ofS s0)
    walk_at "w"
    refine for_tup (K := K) (xs := rs) (fun i σ H' => ∃ (x3 : Option V), σ = [some (.ref f), some (.ref g), some (.ref dd), x3] ∧ Same H H' ∧ DictAt K H' dd (mergeD [] (d.take i))) ?_ ?_ ?_ ?_
    · exact ⟨_, rfl, s0, .nil⟩
    · rintro i σ H' _ ⟨x3, rfl, sm, _⟩
      exact sqT_tu f3 (.ofS sm)
    · rintro i x σ H' hx ⟨x3, rfl, sm, hD⟩
      obtain ⟨r, hr1, t, c1, rfl, w1, w2⟩ := f4.get hx
      have w1' := sqT_tu w1 (.ofS sm)
      walk_at "w"
      refine w_dput hD (Nat.lt_of_le_of_lt mergeD_len (by rw [List.length_take, List.length_nil]; omega)) ⟨c1, rfl, w2.tu (.ofS sm)⟩ fun kvs o e1 e2 => ?_
      refine ⟨_, rfl, same_mut sm hdd, ?_⟩
      have ek : mergeD [] (d.take (i + 1)) = put (mergeD [] (d.take i)) r.1 r.2 := foldl_take hr1
      rw [ek]
      exact e2
    · rintro σ H1 ⟨x3, rfl, sm, hD⟩
      rw [f4.len, List.take_length, mergeD_self o1.nd] at hD
      have g1' := sqT_tu g1 (.ofS sm)
      have g3' := sqT_tu g3 (.ofS sm)
      walk_at "w"
      refine for_tup (K := K) (xs := us) (fun i σ H' => ∃ (x3 : Option V), σ = [some (.ref f), some (.ref g), some (.ref dd), x3] ∧ Same H H' ∧ DictAt K H' dd (sumD d (d2.take i))) ?_ ?_ ?_ ?_
      · exact ⟨_, rfl, sm, hD⟩
      · rintro i σ H' _ ⟨x3, rfl, sm, _⟩
        exact sqT_tu g3 (.ofS sm)
      · rintro i x σ H' hx ⟨x3, rfl, sm, hD⟩
        obtain ⟨r, hr1, t, c1, rfl, w1, w2⟩ := g4.get hx
        have w1' := sqT_tu w1 (.ofS sm)
        have hi : i < d2.length := (List.getElem?_eq_some_iff.mp hr1).1
        have hb := sumD_bd (by decide) (nd_take o2.nd i) o1.nd (bd_take o2.b i) o1.b
        walk_at "w"
        refine ⟨isD hD, ?_⟩
        walk_at "w"
        rename_i z hz
        have s2 := same_of (Same.refl H') hz (o := .tup [.int 0, .int 1])
        refine w_dget2 (hD.mo (.of s2)) (.new (a := (0, 1))) fun oo t2 eo ht2 => ?_
        rw [eo]
        have w12 := sqT_tu w1' (.ofS s2)
        walk_at "w"
        refine use_bin ht2 (w2.tu (.ofS (sm.trans s2))) (bd_get hb (by decide) _) (o2.b r (List.mem_of_getElem? hr1)) (by decide) (by decide) (by decide) fun t3 ht3 => ?_
        have s3 := same_of s2 ht3 (o := tupP (add (MF.get (sumD d (d2.take i)) r.1) r.2))
        have w13 := sqT_tu w1' (.ofS s3)
        walk_at "w"
        refine w_dput (hD.mo (.of s3)) ?_ ⟨t3, rfl, .new⟩ fun kvs o e1 e2 => ?_
        · refine Nat.lt_of_le_of_lt sumD_len ?_
          rw [List.length_take]
          omega
        refine ⟨_, rfl, same_mut (sm.trans s3) hdd, ?_⟩
        have ek : sumD d (d2.take (i + 1)) = put (sumD d (d2.take i)) r.1 (add (MF.get (sumD d (d2.take i)) r.1) r.2) := foldl_take hr1
        rw [ek]
        exact e2
      · rintro σ H2 ⟨x3, rfl, sm, hD⟩
        rw [g4.len, List.take_length] at hD
        have f12 := sqT_tu f1 (.ofS sm)
        have g12 := sqT_tu g1 (.ofS sm)
        walk_at "w"
        refine use_bin (f2.tu (.ofS sm)) (g2.tu (.ofS sm)) o1.c o2.c (by decide) (by decide) (by decide) fun t3 ht3 => ?_
        have s3 := same_of (Same.refl H2) ht3 (o := tupP (add c e))
        walk_at "w"
        refine use_formed .new (hD.mo (.of s3)) (sum_nd o1 o2) ?_ fun t2 H6 rows s6 hfz hrw => ?_
        · refine Nat.lt_of_le_of_lt sumD_len ?_
          omega
        exact h _ _ _ ((sm.trans s3).trans s6) (fun _ => hfz) hfz.fm hrw
def spMul (K : PySem.W.Frag) (z : Bool) : Sp := fun vs H Q _ => ∃ (x f : Addr) (a c : MF.P) (d : MF.D), vs = [.ref x, .ref f] ∧ Rt K H x a ∧ Fm K H f c d ∧ Bd 61 a ∧ Fo 61 c d ∧ d.length ≤ 19 ∧
  ∀ t H' rows, Same H H' → (z = true → FmZ K H' t (mul a c) rows) → Fm K H' t (mul a c) rows → MF.Rows (mulD a d) rows → Q (.ref t) H'
theorem use_mulF {z : Bool} {x f : Addr} {a c : MF.P} {d : MF.D} {H : Hp} {Q : VK} {E : XK} (h1 : Rt K H x a) (h2 : Fm K H f c d) (h3 : Bd 61 a) (h4 : Fo 61 c d) (h5 : d.length ≤ 19)
    (h : ∀ t H' rows, Same H H' → (z = true → FmZ K H' t (mul a c) rows) → Fm K H' t (mul a c) rows → MF.Rows (mulD a d) rows → Q (.ref t) H') : spMul K z [.ref x, .ref f] H Q E := ⟨x, f, a, c, d, rfl, h1, h2, h3, h4, h5, h⟩
theorem mulD_len {a : MF.P} {d : MF.D} : (mulD a d).length = d.length := List.length_map _
theorem ok_multiple (T : Txt K mg) : FnOk P w K mg base CX0 3 T.f_multiple T.fd_multiple ["_law_a", "_law_f"] (spMul K true) := by
  have G_mul := ok_mul (P := P) (w := w) (base := base) T
  have G_formed := ok_formed (P := P) (w := w) (base := base) T
  refine T.F_multiple.ok sc_multiple (fun vs H Q E h => ?_) (fun cdv A outer s H vs Q E hr h => ?_)
  · obtain ⟨x, f, a, c, d, rfl, _⟩ := h
    rfl
  · obtain ⟨y, f, a, c, d, rfl, hy, ⟨tc, tr, rs, f1, f2, f3, f4⟩, hba, o1, l1, h⟩ := h
    refine ⟨_, (pss_cons (ps_set (i := 2) sc_multiple.nd rfl (.inl rfl) pe_dnewK)
 (pss_cons (ps_for PassesOwn.never rfl (pi_tup (pe_ix ix_tup (pv 1) pe_int (fun _ _ => rfl))) (pg_name (i := 3) sc_multiple.nd rfl (.inl rfl)) (pss_one (ps_dput (hu_of hr) (pv 2) (pe_ix ix_tup (pv 3) pe_int (fun _ _ => rfl)) (pe_call G_mul (hr.mono (by decide)) (by rfl) T.g_mul T.F_mul.kp T.b_mul .nil pass0 (pa_cons (pv 0) (pa_cons (pe_ix ix_tup (pv 3) pe_int (fun _ _ => rfl)) pa_nil))) rfl)))
 (pss_one (ps_ret (pe_call G_formed (hr.mono (by decide)) (by rfl) T.g_formed T.F_formed.kp T.b_formed .nil pass0 (pa_cons (pe_call G_mul (hr.mono (by decide)) (by rfl) T.g_mul T.F_mul.kp T.b_mul .nil pass0 (pa_cons (pv 0) (pa_cons (pe_ix ix_tup (pv 1) pe_int (fun _ _ => rfl)) pa_nil))) (pa_cons (pv 2) pa_nil))))))), ?_⟩
    refine Z.w_start (σ' := [some (.ref y), some (.ref f), none, none]) rfl ?_
    walk_at "w"
    rename_i dd hdd
    have s0 := same_of (Same.refl H) hdd (o := .dK [])
    have f1' := sqT_tu f1 (.ofS s0)
    have f3' := sqT_tu f3 (.ofS s0)
    walk_at "w"
    refine for_tup (K := K) (xs := rs) (fun i σ H' => ∃ (x3 : Option V), σ = [some (.ref y), some (.ref f), some (.ref dd), x3] ∧ Same H H' ∧ DictAt K H' dd (mergeD [] (mulD a (d.take i)))) ?_ ?_ ?_ ?_
    · exact ⟨_, rfl, s0, .nil⟩
    · rintro i σ H' _ ⟨x3, rfl, sm, _⟩
      exact sqT_tu f3 (.ofS sm)
    · rintro i x σ H' hx ⟨x3, rfl, sm, hD⟩
      obtain ⟨r, hr1, t, c1, rfl, w1, w2⟩ := f4.get hx
      have w1' := sqT_tu w1 (.ofS sm)
      walk_at "w"
      refine use_bin (hy.tu (.ofS sm)) (w2.tu (.ofS sm)) hba (o1.b r (List.mem_of_getElem? hr1)) (by decide) (by decide) (by decide) fun t3 ht3 => ?_
      have s3 := same_of (Same.refl H') ht3 (o := tupP (mul a r.2))
      have w12 := sqT_tu w1' (.ofS s3)
      walk_at "w"
      refine w_dput (hD.mo (.of s3)) (Nat.lt_of_le_of_lt mergeD_len (by rw [mulD_len, List.length_take, List.length_nil]; omega)) ⟨t3, rfl, .new⟩ fun kvs o e1 e2 => ?_
      refine ⟨_, rfl, same_mut (sm.trans s3) hdd, ?_⟩
      have ek : mergeD [] (mulD a (d.take (i + 1))) = put (mergeD [] (mulD a (d.take i))) r.1 (mul a r.2) := by
        have e0 : mulD a (d.take (i + 1)) = mulD a (d.take i) ++ [(r.1, mul a r.2)] := by
          unfold mulD
          rw [List.take_add_one, hr1, List.map_append]
          rfl
        rw [e0]
        unfold mergeD
        rw [List.foldl_append]
        rfl
      rw [ek]
      exact e2
    · rintro σ H1 ⟨x3, rfl, sm, hD⟩
      rw [f4.len, List.take_length, mergeD_self (mulD_nd o1.nd)] at hD
      have f12 := sqT_tu f1 (.ofS sm)
      walk_at "w"
      refine use_bin (hy.tu (.ofS sm)) (f2.tu (.ofS sm)) hba o1.c (by decide) (by decide) (by decide) fun t3 ht3 => ?_
      have s3 := same_of (Same.refl H1) ht3 (o := tupP (mul a c))
      walk_at "w"
      refine use_formed .new (hD.mo (.of s3)) (mulD_nd o1.nd) (by rw [mulD_len]; omega) fun t2 H6 rows s6 hfz hrw => ?_
      exact h _ _ _ ((sm.trans s3).trans s6) (fun _ => hfz) hfz.fm hrw
def spWorth (K : PySem.W.Frag) : Sp := fun vs H Q _ => ∃ (f v : Addr) (c : MF.P) (d D : MF.D) (n : Nat), vs = [.ref f, .ref v] ∧ Fm K H f c d ∧ DictAt K H v D ∧ Bd n c ∧ AllBd 123 d ∧ AllBd 61 D ∧ (∀ r ∈ d, has D r.1 = true) ∧ 0 < n ∧ n + d.length * 185 ≤ 8600 ∧
  ∀ t H', Same H H' → Rt K H' t (worthP c d D) → Q (.ref t) H'
theorem use_worth {f v : Addr} {c : MF.P} {d D : MF.D} {n : Nat} {H : Hp} {Q : VK} {E : XK} (h1 : Fm K H f c d) (h2 : DictAt K H v D) (h3 : Bd n c) (h4 : AllBd 123 d) (h5 : AllBd 61 D) (h6 : ∀ r ∈ d, has D r.1 = true) (h7 : 0 < n) (h8 : n + d.length * 185 ≤ 8600)
    (h : ∀ t H', Same H H' → Rt K H' t (worthP c d D) → Q (.ref t) H') : spWorth K [.ref f, .ref v] H Q E := ⟨f, v, c, d, D, n, rfl, h1, h2, h3, h4, h5, h6, h7, h8, h⟩
theorem ok_worth (T : Txt K mg) : FnOk P w K mg base CX0 3 T.f_worth T.fd_worth ["_law_f", "_law_values_here"] (spWorth K) := by
  have G_mul := ok_mul (P := P) (w := w) (base := base) T
  have G_add := ok_add (P := P) (w := w) (base := base) T
  refine T.F_worth.ok sc_worth (fun vs H Q E h => ?_) (fun cdv A outer s H vs Q E hr h => ?_)
  · obtain ⟨f, v, c, d, D, n, rfl, _⟩ := h
    rfl
  · obtain ⟨f, v, c, d, D, n, rfl, ⟨tc, tr, rs, f1, f2, f3, f4⟩, hv, hc, hd, hD, hall, hn, hbig, h⟩ := h
    refine ⟨_, (pss_cons (ps_set (i := 2) sc_worth.nd rfl (.inl rfl) (pe_ix ix_tup (pv 0) pe_int (fun _ _ => rfl)))
 (pss_cons (ps_for PassesOwn.never rfl (pi_tup (pe_ix ix_tup (pv 0) pe_int (fun _ _ => rfl))) (pg_name (i := 3) sc_worth.nd rfl (.inl rfl)) (pss_one (ps_set (i := 2) sc_worth.nd rfl (.inl rfl) (pe_call G_add (hr.mono (by decide)) (by rfl) T.g_add T.F_add.kp T.b_add .nil pass0 (pa_cons (pv 2) (pa_cons (pe_call G_mul (hr.mono (by decide)) (by rfl) T.g_mul T.F_mul.kp T.b_mul .nil pass0 (pa_cons (pe_ix ix_tup (pv 3) pe_int (fun _ _ => rfl)) (pa_cons (pe_dget (hu_of hr) (pv 1) (pe_ix ix_tup (pv 3) pe_int (fun _ _ => rfl)) (fun _ _ => rfl)) pa_nil))) pa_nil))))))
 (pss_one (ps_ret (pv 2))))), ?_⟩
    refine Z.w_start (σ' := [some (.ref f), some (.ref v), none, none]) rfl ?_
    walk_at "w"
    refine for_tup (K := K) (xs := rs) (fun i σ H' => ∃ (x3 : Option V) (t : Addr), σ = [some (.ref f), some (.ref v), some (.ref t), x3] ∧ Same H H' ∧ Rt K H' t (worthP c (d.take i) D)) ?_ ?_ ?_ ?_
    · exact ⟨_, _, rfl, Same.refl _, f2⟩
    · rintro i σ H' _ ⟨x3, t, rfl, sm, _⟩
      exact sqT_tu f3 (.ofS sm)
    · rintro i x σ H' hx ⟨x3, t, rfl, sm, ht⟩
      obtain ⟨r, hr1, t1, c1, rfl, w1, w2⟩ := f4.get hx
      have hrm := List.mem_of_getElem? hr1
      have hi : i < d.length := (List.getElem?_eq_some_iff.mp hr1).1
      have w1' := sqT_tu w1 (.ofS sm)
      walk_at "w"
      refine w_dget (hv.mo (.of sm)) (hall r hrm) fun t2 ht2 => ?_
      walk_at "w"
      have hg := bd_get hD (by decide) r.1
      have hw := worth_bd hD (by decide) hc (bd_take hd i)
      rw [List.length_take, Nat.min_eq_left (Nat.le_of_lt hi)] at hw
      refine use_bin (w2.tu (.ofS sm)) ht2 (hd r hrm) hg (by decide) (by decide) (by decide) fun t3 ht3 => ?_
      have s3 := same_of (Same.refl H') ht3 (o := tupP (mul r.2 (MF.get D r.1)))
      walk_at "w"
      refine use_bin (ht.tu (.ofS s3)) .new hw (bd_mul (hd r hrm) hg) (by omega) (by decide) ?_ fun t4 ht4 => ?_
      · have : i * 185 ≤ d.length * 185 := Nat.mul_le_mul_right _ (Nat.le_of_lt hi)
        omega
      refine ⟨_, t4, rfl, same_of (sm.trans s3) ht4, ?_⟩
      have ek : worthP c (d.take (i + 1)) D = add (worthP c (d.take i) D) (mul r.2 (MF.get D r.1)) := foldl_take hr1
      rw [ek]
      exact .new
    · rintro σ H1 ⟨x3, t, rfl, sm, ht⟩
      rw [f4.len, List.take_length] at ht
      walk_at "w"
      exact h _ _ sm ht
end
end L

namespace L
open PySem PySem.Spec PyProof.Rows L2 Z M MF DT
section
variable {P : Program} {w : World} {K : PySem.W.Frag} {mg : Str → Option Value} {base : Heap}
def ratD (a : MF.P) : PyData := .tuple [.int a.1, .int a.2]
def rowD (r : Int × MF.P) : PyData := .tuple [.int r.1, ratD r.2]
def fmD (c : MF.P) (d : MF.D) : PyData := .tuple [ratD c, .tuple (d.map rowD)]
theorem dp_rt {H : Hp} {t : Addr} {a : MF.P} (h : Rt K H t a) : Dp K H (.ref t) (ratD a) := .tup h (.cons (.int _) (.cons (.int _) .nil))
theorem dp_row {H : Hp} {v : V} {r : Int × MF.P} (h : RowV K H v r) : Dp K H v (rowD r) := by
  obtain ⟨t, c, rfl, h1, h2⟩ := h
  exact .tup h1 (.cons (.int _) (.cons (dp_rt h2) .nil))
theorem dp_rows {H : Hp} : ∀ {vs : List V} {d : MF.D}, RowsV K H vs d → DpAll K H vs (d.map rowD)
  | _, _, .nil => .nil
  | _, _, .cons h t => .cons (dp_row h) (dp_rows t)
theorem dp_fm {H : Hp} {t : Addr} {c : MF.P} {d : MF.D} (h : Fm K H t c d) : Dp K H (.ref t) (fmD c d) := by
  obtain ⟨tc, tr, vs, h1, h2, h3, h4⟩ := h
  exact .tup h1 (.cons (dp_rt h2) (.cons (.tup h3 (dp_rows h4)) .nil))
theorem lay_rows : ∀ d : MF.D, PyData.canLayAll0 (d.map rowD) = true ∧ PyData.depthAll (d.map rowD) ≤ 2
  | [] => ⟨rfl, Nat.zero_le _⟩
  | r :: d => by
    obtain ⟨h1, h2⟩ := lay_rows d
    refine ⟨?_, ?_⟩
    · simp [PyData.canLayAll0, h1, rowD, ratD, PyData.canLay0]
    · rw [List.map_cons]
      unfold PyData.depthAll
      refine Nat.max_le.mpr ⟨?_, h2⟩
      simp [rowD, ratD, PyData.depth, PyData.depthAll]
theorem lay_fm (c : MF.P) (d : MF.D) : PyData.canLay0 (fmD c d) = true := by
  simp [fmD, ratD, PyData.canLay0, PyData.canLayAll0, (lay_rows d).1]
theorem shp_fm (c : MF.P) (d : MF.D) : SeqAt.shaped (fmD c d) = true := by
  unfold SeqAt.shaped
  rw [lay_fm, Bool.true_and]
  refine decide_eq_true ?_
  have h := (lay_rows d).2
  simp [fmD, ratD, PyData.depth, PyData.depthAll]
  omega
theorem lay_rt (a : MF.P) : PyData.canLay0 (ratD a) = true := by simp [ratD, PyData.canLay0, PyData.canLayAll0]
theorem shp_rt (a : MF.P) : SeqAt.shaped (ratD a) = true := by
  simp [SeqAt.shaped, ratD, PyData.canLay0, PyData.canLayAll0, PyData.depth, PyData.depthAll]
theorem eq_fm {x y : Addr} {c : MF.P} {d : MF.D} {H : Hp} {Q : VK} (h1 : Fm K H x c d) (h2 : Fm K H y c d) (q : Q (.bl true) H) : rEqD K (.ref x) (.ref y) H Q :=
  ⟨_, _, dp_fm h1, dp_fm h2, shp_fm _ _, shp_fm _ _, by rw [SeqAt.eqv_refl (fmD c d) (lay_fm c d)]; exact q⟩
theorem eq_rt {x y : Addr} {a : MF.P} {H : Hp} {Q : VK} (h1 : Rt K H x a) (h2 : Rt K H y a) (q : Q (.bl true) H) : rEqD K (.ref x) (.ref y) H Q :=
  ⟨_, _, dp_rt h1, dp_rt h2, shp_rt _, shp_rt _, by rw [SeqAt.eqv_refl (ratD a) (lay_rt a)]; exact q⟩
theorem eqv_rt0 {a : MF.P} (h : Lw a) : PyData.eqv (ratD a) (ratD (0, 1)) = decide (a.1 = 0) := by
  have e : PyData.eqv (ratD a) (ratD (0, 1)) = (a.1 == 0 && a.2 == 1) := by simp [ratD, PyData.eqv, PyData.eqvAll]
  rw [e]
  by_cases z : a.1 = 0
  · have := (zero_iff h).mp z
    rw [this]
    rfl
  · rw [decide_eq_false z]
    simp [z]
theorem eq_rt0 {x y : Addr} {a : MF.P} {H : Hp} {Q : VK} (h : Lw a) (h1 : Rt K H x a) (h2 : Rt K H y (0, 1)) (q : Q (.bl (decide (a.1 = 0))) H) : rEqD K (.ref x) (.ref y) H Q :=
  ⟨_, _, dp_rt h1, dp_rt h2, shp_rt _, shp_rt _, by rw [eqv_rt0 h]; exact q⟩
theorem ne_rt0 {x y : Addr} {a : MF.P} {H : Hp} {Q : VK} (h : Lw a) (h1 : Rt K H x a) (h2 : Rt K H y (0, 1)) (q : Q (.bl (decide (a.1 ≠ 0))) H) : rNeD K (.ref x) (.ref y) H Q :=
  ⟨_, _, dp_rt h1, dp_rt h2, shp_rt _, shp_rt _, by
    rw [eqv_rt0 h]
    have e : (!decide (a.1 = 0)) = decide (a.1 ≠ 0) := by by_cases z : a.1 = 0 <;> simp [z]
    rw [e]
    exact q⟩
/-! the program -/
theorem b_fm {H : Hp} {x t r : Addr} {c : MF.P} {vs : List V} {d : MF.D} (h1 : Rt K H x c) (h2 : SqT K H r vs) (h3 : RowsV K H vs d) (ht : H t = none) : Fm K (upd H t (.tup [.ref x, .ref r])) t c d := by
  have s := same_of (Same.refl H) ht (o := .tup [.ref x, .ref r])
  exact ⟨x, r, vs, .inl (.inl upd_same), h1.tu (.ofS s), sqT_tu h2 (.ofS s), h3.tu (.ofS s)⟩
def spConst (K : PySem.W.Frag) : Sp := fun vs H Q _ => ∃ (x : Addr) (a : MF.P), vs = [.ref x] ∧ Rt K H x a ∧ ∀ t H', Same H H' → Fm K H' t a [] → Q (.ref t) H'
theorem use_const {x : Addr} {a : MF.P} {H : Hp} {Q : VK} {E : XK} (h1 : Rt K H x a) (h : ∀ t H', Same H H' → Fm K H' t a [] → Q (.ref t) H') : spConst K [.ref x] H Q E := ⟨x, a, rfl, h1, h⟩
theorem ok_constant_form (T : Txt K mg) : FnOk P w K mg base CX0 1 T.f_constant_form T.fd_constant_form ["a"] (spConst K) := by
  refine T.F_constant_form.ok sc_constant_form (fun vs H Q E h => ?_) (fun cdv A outer s H vs Q E hr h => ?_)
  · obtain ⟨x, a, rfl, _⟩ := h
    rfl
  · obtain ⟨x, a, rfl, hx, h⟩ := h
    refine ⟨_, (pss_one (ps_ret (pe_tup (pa_cons (pv 0) (pa_cons (pe_tup pa_nil) pa_nil))))), ?_⟩
    refine Z.w_start (σ' := [some (.ref x)]) rfl ?_
    walk_at "w"
    rename_i r hr1 t ht
    have s := same_of (Same.refl H) hr1 (o := .tup [])
    exact h _ _ (same_of s ht) (b_fm (hx.tu (.ofS s)) (.inl (.inl upd_same)) .nil ht)
def spBase (K : PySem.W.Frag) : Sp := fun vs H Q _ => ∃ n : Int, vs = [.int n] ∧ ∀ t H', Same H H' → Fm K H' t (0, 1) [(n, (1, 1))] → Q (.ref t) H'
theorem use_base {n : Int} {H : Hp} {Q : VK} {E : XK} (h : ∀ t H', Same H H' → Fm K H' t (0, 1) [(n, (1, 1))] → Q (.ref t) H') : spBase K [.int n] H Q E := ⟨n, rfl, h⟩
theorem ok_base_form (T : Txt K mg) : FnOk P w K mg base CX0 1 T.f_base_form T.fd_base_form ["node"] (spBase K) := by
  refine T.F_base_form.ok sc_base_form (fun vs H Q E h => ?_) (fun cdv A outer s H vs Q E hr h => ?_)
  · obtain ⟨n, rfl, _⟩ := h
    rfl
  · obtain ⟨n, rfl, h⟩ := h
    refine ⟨_, (pss_one (ps_ret (pe_tup (pa_cons (pe_glob (v := .ref T.A_ZERO) (by rfl) T.g_ZERO rfl) (pa_cons (pe_tup (pa_cons (pe_tup (pa_cons (pv 0) (pa_cons (pe_glob (v := .ref T.A_ONE) (by rfl) T.g_ONE rfl) pa_nil))) pa_nil)) pa_nil))))), ?_⟩
    refine Z.w_start (σ' := [some (.int n)]) rfl ?_
    walk_at "w"
    rename_i a ha r hr1 t ht
    have s1 := same_of (Same.refl H) ha (o := .tup [.int n, .ref T.A_ONE])
    have s2 := same_of s1 hr1 (o := .tup [.ref a])
    refine h _ _ (same_of s2 ht) (b_fm (T.z_ZERO _) (.inl (.inl upd_same)) (.cons ⟨a, T.A_ONE, rfl, ?_, T.z_ONE _⟩ .nil) ht)
    exact .inl (.inl (upd_of hr1 upd_same))
theorem ok_form_plus (T : Txt K mg) : FnOk P w K mg base CX0 3 T.f_form_plus T.fd_form_plus ["f", "g"] (spSum K false) := by
  have G_plus := ok_plus (P := P) (w := w) (base := base) T
  refine T.F_form_plus.ok sc_form_plus (fun vs H Q E h => ?_) (fun cdv A outer s H vs Q E hr h => ?_)
  · obtain ⟨f, g, c, e, d, d2, rfl, _⟩ := h
    rfl
  · obtain ⟨f, g, c, e, d, d2, rfl, hf, ⟨uc, ur, us, g1, g2, g3, g4⟩, o1, o2, l1, l2, h⟩ := h
    obtain ⟨tc, tr, rs, oo, f1, f2, f3, fb, f4⟩ := id hf
    refine ⟨_, (pss_cons (ps_set (i := 2) sc_form_plus.nd rfl (.inr rfl) (pe_callTy (DT.call_dictT rfl) (by rfl) T.m_dict (by decide +kernel) (pa_cons (pe_ix ix_tup (pv 0) pe_int (fun _ _ => rfl)) pa_nil)))
 (pss_cons (ps_for PassesOwn.never rfl (pi_tup (pe_ix ix_tup (pv 1) pe_int (fun _ _ => rfl))) (pg_tup (by rfl) (pgs_cons (pg_name (i := 3) sc_form_plus.nd rfl (.inl rfl)) (pgs_cons (pg_name (i := 4) sc_form_plus.nd rfl (.inl rfl)) pgs_nil))) (pss_one (ps_dput (hu_of hr) (pv 2) (pv 3) (pe_call G_plus (hr.mono (by decide)) (by rfl) T.g_plus T.F_plus.kp T.b_plus .nil pass0 (pa_cons (pe_dget2 (hu_of hr) (pv 2) (pv 3) (pe_glob (v := .ref T.A_ZERO) (by rfl) T.g_ZERO rfl) ⟨rfl, rfl, rfl, rfl⟩) (pa_cons (pv 4) pa_nil))) rfl)))
 (pss_cons (ps_setLc (i := 5) (own := [("node", 3)]) (g := gName 3) (by rfl) sc_form_plus.nd rfl rfl (sw_true rfl rfl rfl (by decide +kernel)) (pi_list (pe_callB (call_sortedDI rfl) (by rfl) T.m_sorted (by decide +kernel) (pa_cons (pv 2) pa_nil))) (blkOk_by (own := [("node", 3)]) (N := N_form_plus) (sc := defScope s_form_plus) (by decide +kernel)) (fun _ _ _ _ _ => pg_name (i := 3) sc_form_plus.nd rfl (Or.inl rfl)) (fun _ _ _ _ _ => pts_one (pt_cmpR (show OpR _ _ (rNeD K) from op_neD hr.units) (pe_dget (hu_of hr) (pv 2) (pv 3) (fun _ _ => rfl)) (pe_glob (v := .ref T.A_ZERO) (by rfl) T.g_ZERO rfl) (nomark _))) (fun _ _ _ _ _ => (pe_tup (pa_cons (pv 3) (pa_cons (pe_dget (hu_of hr) (pv 2) (pv 3) (fun _ _ => rfl)) pa_nil)))))
 (pss_one (ps_ret (pe_tup (pa_cons (pe_call G_plus (hr.mono (by decide)) (by rfl) T.g_plus T.F_plus.kp T.b_plus .nil pass0 (pa_cons (pe_ix ix_tup (pv 0) pe_int (fun _ _ => rfl)) (pa_cons (pe_ix ix_tup (pv 1) pe_int (fun _ _ => rfl)) pa_nil))) (pa_cons (pe_callTy DT.call_tupleZ (by rfl) T.m_tuple (by decide +kernel) (pa_cons (pv 5) pa_nil)) pa_nil)))))))), ?_⟩
    refine Z.w_start (σ' := [some (.ref f), some (.ref g), none, none, none, none]) rfl ?_
    walk_at "w"
    obtain ⟨ps, kvs, ep, q1, q2⟩ := rows_pairs f4
    subst ep
    refine ⟨tr, oo, ps, kvs, rfl, f3, fb, q1, fun dd hdd => ?_⟩
    have s0 := same_of (Same.refl H) hdd (o := .dK (mergeK [] kvs))
    have d0 : DictAt K (upd H dd (.dK (mergeK [] kvs))) dd d := by
      have k := kv_merge q2 (.nil : PySem.Paired (KvR K H) [] [])
      rw [mergeD_self o1.nd] at k
      exact ⟨_, upd_same, Paired.mapP k fun _ _ h => h.tu (.ofS s0)⟩
    have g1' := sqT_tu g1 (.ofS s0)
    have g3' := sqT_tu g3 (.ofS s0)
    walk_at "w"
    refine for_tup (K := K) (xs := us) (fun i σ H' => ∃ (x3 x4 : Option V), σ = [some (.ref f), some (.ref g), some (.ref dd), x3, x4, none] ∧ Same H H' ∧ DictAt K H' dd (sumD d (d2.take i))) ?_ ?_ ?_ ?_
    · exact ⟨_, _, rfl, s0, d0⟩
    · rintro i σ H' _ ⟨x3, x4, rfl, sm, _⟩
      exact sqT_tu g3 (.ofS sm)
    · rintro i x σ H' hx ⟨x3, x4, rfl, sm, hD⟩
      obtain ⟨r, hr1, t, c1, rfl, w1, w2⟩ := g4.get hx
      have w1' := sqT_tu w1 (.ofS sm)
      have hi : i < d2.length := (List.getElem?_eq_some_iff.mp hr1).1
      have hb := sumD_bd (by decide) (nd_take o2.nd i) o1.nd (bd_take o2.b i) o1.b
      walk_at "w"
      refine ⟨isD hD, ?_⟩
      walk_at "w"
      refine w_dget2 hD (T.z_ZERO _) fun oo t2 eo ht2 => ?_
      rw [eo]
      walk_at "w"
      refine use_bin ht2 (w2.tu (.ofS sm)) (bd_get hb (by decide) _) (o2.b r (List.mem_of_getElem? hr1)) (by decide) (by decide) (by decide) fun t3 ht3 => ?_
      have s3 := same_of (Same.refl H') ht3 (o := tupP (add (MF.get (sumD d (d2.take i)) r.1) r.2))
      walk_at "w"
      refine w_dput (hD.mo (.of s3)) ?_ ⟨t3, rfl, .new⟩ fun kvs o e1 e2 => ?_
      · refine Nat.lt_of_le_of_lt sumD_len ?_
        rw [List.length_take]
        omega
      refine ⟨_, _, rfl, same_mut (sm.trans s3) hdd, ?_⟩
      have ek : sumD d (d2.take (i + 1)) = put (sumD d (d2.take i)) r.1 (add (MF.get (sumD d (d2.take i)) r.1) r.2) := foldl_take hr1
      rw [ek]
      exact e2
    · rintro σ H1 ⟨x3, x4, rfl, sm, hD⟩
      rw [g4.len, List.take_length] at hD
      have nd := sum_nd o1 o2
      have hlen : (sumD d d2).length ≤ 38 := Nat.le_trans sumD_len (by omega)
      have hlw := (sumD_facts (g := d2) o1.nd o1.b.lw o2.b.lw).2.1
      walk_at "w"
      obtain ⟨kv1, k1, k2⟩ := id hD
      refine ⟨dd, kv1, (sumD d d2).map (·.1), rfl, .inl k1, kv_keys k2, by rw [List.length_map]; omega, fun ns p2 hpm hps hp2 => ?_⟩
      have s2 := same_of (Same.refl H1) hp2 (o := .lst (ns.map V.int))
      obtain ⟨a1, a2, a3⟩ := sorted_keys nd hpm hps
      walk_at "w"
      refine fun Dl hDl => lc_rows (K := K) (ns := ns) (.inl (.inl upd_same)) (hD.mo (.of s2)) hDl (by omega) (fun n hm => (a2 n).mp hm) (fun H3 vs s3 e3 r3 => ?_) fun n H3 R hm s3 d3 k => ?_
      case refine_2 =>
        refine Z.w_gname (σ' := [some (.ref f), some (.ref g), some (.ref dd), some (.int n), x4, none]) rfl ?_
        refine k _ rfl (fun Q q => ?_) fun R q => ?_
        · walk_at "w"
          refine w_dget d3 ((a2 n).mp hm) fun t ht => ?_
          walk_at "w"
          rename_i p3 hp3
          exact q _ _ (same_of (Same.refl _) hp3) ⟨p3, t, rfl, .inl (.inl upd_same), ht.tu (.ofS (same_of (Same.refl _) hp3))⟩
        · walk_at "w"
          refine w_dget d3 ((a2 n).mp hm) fun t ht => ?_
          walk_at "w"
          refine ne_rt0 (lw_get hlw n) ht (T.z_ZERO _) ?_
          walk_at "w"
          exact q
      have s4 := (sm.trans s2).trans s3
      have f12 := sqT_tu f1 (.ofS s4)
      have g12 := sqT_tu g1 (.ofS s4)
      walk_at "w"
      refine use_bin (f2.tu (.ofS s4)) (g2.tu (.ofS s4)) o1.c o2.c (by decide) (by decide) (by decide) fun t5 ht5 => ?_
      have s5 := same_of (Same.refl H3) ht5 (o := tupP (add c e))
      have e5 := s5 _ _ e3
      walk_at "w"
      refine ⟨Dl, vs, rfl, .inl (.inl e5), fun l o hl4 hb => ?_⟩
      have s6 := same_of s5 hl4 (o := .frz o (.tup vs))
      walk_at "w"
      rename_i p6 hp6
      have s7 := s4.trans (same_of s6 hp6 (o := .tup [.ref t5, .ref l]))
      refine h _ _ (keepN (sumD d d2) ns) s7 (fun z => by cases z) (b_fm ?_ (.inl (.inr ⟨o, upd_same⟩)) (r3.tu (.ofS s6)) hp6) (rows_mk a1 a2)
      exact (Rt.new).tu (.ofS (same_of (Same.refl _) hl4))
theorem ok_form_times (T : Txt K mg) : FnOk P w K mg base CX0 3 T.f_form_times T.fd_form_times ["a", "f"] (spMul K false) := by
  have G_times := ok_times (P := P) (w := w) (base := base) T
  have G_constant_form := ok_constant_form (P := P) (w := w) (base := base) T
  refine T.F_form_times.ok sc_form_times (fun vs H Q E h => ?_) (fun cdv A outer s H vs Q E hr h => ?_)
  · obtain ⟨x, f, a, c, d, rfl, _⟩ := h
    rfl
  · obtain ⟨y, f, a, c, d, rfl, hy, ⟨tc, tr, rs, f1, f2, f3, f4⟩, hba, o1, l1, h⟩ := h
    refine ⟨_, (pss_cons (ps_if (pt_cmpR (op_eqD hr.units) (pv 0) (pe_glob (v := .ref T.A_ZERO) (by rfl) T.g_ZERO rfl) (nomark _)) (pss_one (ps_ret (pe_call G_constant_form (hr.mono (by decide)) (by rfl) T.g_constant_form T.F_constant_form.kp T.b_constant_form .nil pass0 (pa_cons (pe_glob (v := .ref T.A_ZERO) (by rfl) T.g_ZERO rfl) pa_nil)))) pss_nil)
 (pss_cons (ps_setLc (i := 2) (own := [("node", 3), ("coefficient", 4)]) (tt := tYes) (g := gTup K 2 (gCons (gName 3) (gCons (gName 4) gNil))) (by rfl) sc_form_times.nd rfl rfl (sw_true rfl rfl rfl (by decide +kernel)) (pi_tup (pe_ix ix_tup (pv 1) pe_int (fun _ _ => rfl))) (blkOk_by (own := [("node", 3), ("coefficient", 4)]) (N := N_form_times) (sc := defScope s_form_times) (by decide +kernel)) (fun _ _ _ _ _ => pg_tup (by rfl) (pgs_cons (pg_name (i := 3) sc_form_times.nd rfl (Or.inl rfl)) (pgs_cons (pg_name (i := 4) sc_form_times.nd rfl (Or.inl rfl)) pgs_nil))) (fun _ _ _ _ _ => pts_nil) (fun _ _ _ _ _ => (pe_tup (pa_cons (pv 3) (pa_cons (pe_call G_times (hr.mono (by decide)) (by rfl) T.g_times T.F_times.kp T.b_times .nil pass0 (pa_cons (pv 0) (pa_cons (pv 4) pa_nil))) pa_nil)))))
 (pss_one (ps_ret (pe_tup (pa_cons (pe_call G_times (hr.mono (by decide)) (by rfl) T.g_times T.F_times.kp T.b_times .nil pass0 (pa_cons (pv 0) (pa_cons (pe_ix ix_tup (pv 1) pe_int (fun _ _ => rfl)) pa_nil))) (pa_cons (pe_callTy DT.call_tupleZ (by rfl) T.m_tuple (by decide +kernel) (pa_cons (pv 2) pa_nil)) pa_nil))))))), ?_⟩
    refine Z.w_start (σ' := [some (.ref y), some (.ref f), none, none, none]) rfl ?_
    walk_at "w"
    refine eq_rt0 hba.1 hy (T.z_ZERO _) ?_
    walk_at "w"
    walk_at "wi"
    · rename_i h0
      have ea := (zero_iff hba.1).mp h0
      subst ea
      walk_at "w"
      refine use_const (x := T.A_ZERO) (a := (0, 1)) (T.z_ZERO _) fun t H1 s1 hf => ?_
      refine h t H1 [] s1 (fun z => by cases z) (by rw [mul_zero_l o1.c.1]; exact hf) ?_
      have hz : ∀ n, MF.get (mulD (0, 1) d) n = (0, 1) := fun n => by
        rw [mulD_get lw_zero o1.b.lw, mul_zero_l (lw_get o1.b.lw n)]
      refine ⟨List.Pairwise.nil, fun n e => ⟨(fun hm => by cases hm), fun ⟨e1, e2⟩ => ?_⟩⟩
      rw [hz] at e1
      exact absurd (by rw [e1]) e2
    · rename_i h0
      walk_at "w"
      refine fun D hD => ?_
      refine lc_tup (K := K) (xs := rs) (fun i H' => Same H H' ∧ ∃ vs, H' D = some (.lst vs) ∧ RowsV K H' vs (mulD a (d.take i)) ∧ i ≤ d.length) ?_ ?_ ?_ ?_
      · exact ⟨same_of (Same.refl _) hD, [], upd_same, .nil, Nat.zero_le _⟩
      · rintro i H' _ ⟨sm, _⟩
        exact sqT_tu f3 (.ofS sm)
      · rintro i x H' hx ⟨sm, vs, hv, hrw, hi⟩
        obtain ⟨r, hr1, t, c1, rfl, w1, w2⟩ := f4.get hx
        have w1' := sqT_tu w1 (.ofS sm)
        have hil : i < d.length := (List.getElem?_eq_some_iff.mp hr1).1
        show gTup K 2 (gCons (gName 3) (gCons (gName 4) gNil)) (.ref t) [some (.ref y), some (.ref f), none, none, none] H' _
        refine Z.w_gtup w1' rfl ?_
        walk_at "w"
        refine use_bin (hy.tu (.ofS sm)) (w2.tu (.ofS sm)) hba (o1.b r (List.mem_of_getElem? hr1)) (by decide) (by decide) (by decide) fun t3 ht3 => ?_
        have s3 := same_of (Same.refl H') ht3 (o := tupP (mul a r.2))
        walk_at "w"
        rename_i p4 hp4
        have s4 := same_of s3 hp4 (o := .tup [.int r.1, .ref t3])
        refine ⟨vs, s4 _ _ hv, ?_, same_mut (sm.trans s4) hD, _, upd_same, ?_, hil⟩
        · rw [hrw.len, mulD_len, List.length_take]
          exact Nat.lt_of_le_of_lt (Nat.min_le_left _ _) (Nat.lt_trans (show i < 1000 by omega) (by decide))
        · have e0 : mulD a (d.take (i + 1)) = mulD a (d.take i) ++ [(r.1, mul a r.2)] := by
            unfold mulD
            rw [List.take_add_one, hr1, List.map_append]
            rfl
          rw [e0]
          have tu : Tu (upd (upd H' t3 (tupP (mul a r.2))) p4 (.tup [.int r.1, .ref t3])) (upd (upd (upd H' t3 (tupP (mul a r.2))) p4 (.tup [.int r.1, .ref t3])) D (.lst (vs ++ [.ref p4]))) := Tu.of ((Mo.refl _).lst (s4 _ _ hv))
          refine PySem.Paired.snoc (RowsV.tu hrw ((Tu.ofS s4).trans tu)) (RowV.tu ?_ tu)
          exact ⟨p4, t3, rfl, .inl (.inl upd_same), Rt.new.tu (.ofS (same_of (Same.refl _) hp4))⟩
      · rintro H1 ⟨sm, vs, hv, hrw, _⟩
        rw [f4.len, List.take_length] at hrw
        have f12 := sqT_tu f1 (.ofS sm)
        walk_at "w"
        refine use_bin (hy.tu (.ofS sm)) (f2.tu (.ofS sm)) hba o1.c (by decide) (by decide) (by decide) fun t5 ht5 => ?_
        have s5 := same_of (Same.refl H1) ht5 (o := tupP (mul a c))
        have e5 := s5 _ _ hv
        walk_at "w"
        refine ⟨D, vs, rfl, .inl (.inl e5), fun l o hl4 hb => ?_⟩
        have s6 := same_of s5 hl4 (o := .frz o (.tup vs))
        walk_at "w"
        rename_i p6 hp6
        have s7 := sm.trans (same_of s6 hp6 (o := .tup [.ref t5, .ref l]))
        refine h _ _ (mulD a d) s7 (fun z => by cases z) (b_fm ?_ (.inl (.inr ⟨o, upd_same⟩)) (hrw.tu (.ofS s6)) hp6) (rows_mulD o1 hba.1 h0)
        exact (Rt.new).tu (.ofS (same_of (Same.refl _) hl4))
theorem ok_form_value (T : Txt K mg) : FnOk P w K mg base CX0 3 T.f_form_value T.fd_form_value ["f", "values"] (spWorth K) := by
  have G_times := ok_times (P := P) (w := w) (base := base) T
  have G_plus := ok_plus (P := P) (w := w) (base := base) T
  refine T.F_form_value.ok sc_form_value (fun vs H Q E h => ?_) (fun cdv A outer s H vs Q E hr h => ?_)
  · obtain ⟨f, v, c, d, D, n, rfl, _⟩ := h
    rfl
  · obtain ⟨f, v, c, d, D, n, rfl, ⟨tc, tr, rs, f1, f2, f3, f4⟩, hv, hc, hd, hD, hall, hn, hbig, h⟩ := h
    refine ⟨_, (pss_cons (ps_set (i := 2) sc_form_value.nd rfl (.inl rfl) (pe_ix ix_tup (pv 0) pe_int (fun _ _ => rfl)))
 (pss_cons (ps_for PassesOwn.never rfl (pi_tup (pe_ix ix_tup (pv 0) pe_int (fun _ _ => rfl))) (pg_tup (by rfl) (pgs_cons (pg_name (i := 3) sc_form_value.nd rfl (.inl rfl)) (pgs_cons (pg_name (i := 4) sc_form_value.nd rfl (.inl rfl)) pgs_nil))) (pss_one (ps_set (i := 2) sc_form_value.nd rfl (.inl rfl) (pe_call G_plus (hr.mono (by decide)) (by rfl) T.g_plus T.F_plus.kp T.b_plus .nil pass0 (pa_cons (pv 2) (pa_cons (pe_call G_times (hr.mono (by decide)) (by rfl) T.g_times T.F_times.kp T.b_times .nil pass0 (pa_cons (pv 4) (pa_cons (pe_dget (hu_of hr) (pv 1) (pv 3) (fun _ _ => rfl)) pa_nil))) pa_nil))))))
 (pss_one (ps_ret (pv 2))))), ?_⟩
    refine Z.w_start (σ' := [some (.ref f), some (.ref v), none, none, none]) rfl ?_
    walk_at "w"
    refine for_tup (K := K) (xs := rs) (fun i σ H' => ∃ (x3 x4 : Option V) (t : Addr), σ = [some (.ref f), some (.ref v), some (.ref t), x3, x4] ∧ Same H H' ∧ Rt K H' t (worthP c (d.take i) D)) ?_ ?_ ?_ ?_
    · exact ⟨_, _, _, rfl, Same.refl _, f2⟩
    · rintro i σ H' _ ⟨x3, x4, t, rfl, sm, _⟩
      exact sqT_tu f3 (.ofS sm)
    · rintro i x σ H' hx ⟨x3, x4, t, rfl, sm, ht⟩
      obtain ⟨r, hr1, t1, c1, rfl, w1, w2⟩ := f4.get hx
      have hrm := List.mem_of_getElem? hr1
      have hi : i < d.length := (List.getElem?_eq_some_iff.mp hr1).1
      have w1' := sqT_tu w1 (.ofS sm)
      walk_at "w"
      refine w_dget (hv.mo (.of sm)) (hall r hrm) fun t2 ht2 => ?_
      walk_at "w"
      have hg := bd_get hD (by decide) r.1
      have hw := worth_bd hD (by decide) hc (bd_take hd i)
      rw [List.length_take, Nat.min_eq_left (Nat.le_of_lt hi)] at hw
      refine use_bin (w2.tu (.ofS sm)) ht2 (hd r hrm) hg (by decide) (by decide) (by decide) fun t3 ht3 => ?_
      have s3 := same_of (Same.refl H') ht3 (o := tupP (mul r.2 (MF.get D r.1)))
      walk_at "w"
      refine use_bin (ht.tu (.ofS s3)) .new hw (bd_mul (hd r hrm) hg) (by omega) (by decide) ?_ fun t4 ht4 => ?_
      · have : i * 185 ≤ d.length * 185 := Nat.mul_le_mul_right _ (Nat.le_of_lt hi)
        omega
      refine ⟨_, _, t4, rfl, same_of (sm.trans s3) ht4, ?_⟩
      have ek : worthP c (d.take (i + 1)) D = add (worthP c (d.take i) D) (mul r.2 (MF.get D r.1)) := foldl_take hr1
      rw [ek]
      exact .new
    · rintro σ H1 ⟨x3, x4, t, rfl, sm, ht⟩
      rw [f4.len, List.take_length] at ht
      walk_at "w"
      exact h _ _ sm ht
/-! the law's own tests -/
def spPair (K : PySem.W.Frag) : Sp := fun vs H Q _ => ∃ (t : Addr) (a : MF.P), vs = [.ref t] ∧ Rt K H t a ∧ Q (.bl true) H
theorem use_pair {t : Addr} {a : MF.P} {H : Hp} {Q : VK} {E : XK} (h : Rt K H t a) (q : Q (.bl true) H) : spPair K [.ref t] H Q E := ⟨t, a, rfl, h, q⟩
theorem ok_pair (T : Txt K mg) : FnOk P w K mg base CX0 2 T.f_pair T.fd_pair ["_law_told"] (spPair K) := by
  have G_whole := ok_whole (P := P) (w := w) (base := base) T
  refine T.F_pair.ok sc_pair (fun vs H Q E h => ?_) (fun cdv A outer s H vs Q E hr h => ?_)
  · obtain ⟨t, a, rfl, _⟩ := h
    rfl
  · obtain ⟨t, a, rfl, ht, q⟩ := h
    have ht' : SqT K H t [.int a.1, .int a.2] := ht
    refine ⟨_, (pss_one (ps_ret (pe_and (pe_callB call_isi (by rfl) T.m_isinstance (by decide +kernel) (pa_cons (pv 0) (pa_cons (pe_bltn (v := .ty "tuple") (by rfl) T.m_tuple (by decide +kernel) rfl) pa_nil))) (pe_and (pe_cmpR op_eq (pe_callB call_len_seq (by rfl) T.m_len (by decide +kernel) (pa_cons (pv 0) pa_nil)) pe_int (nomark _)) (pe_and (pe_call G_whole (hr.mono (by decide)) (by rfl) T.g_whole T.F_whole.kp T.b_whole .nil pass0 (pa_cons (pe_ix ix_tup (pv 0) pe_int (fun _ _ => rfl)) pa_nil)) (pe_one (pe_call G_whole (hr.mono (by decide)) (by rfl) T.g_whole T.F_whole.kp T.b_whole .nil pass0 (pa_cons (pe_ix ix_tup (pv 0) pe_int (fun _ _ => rfl)) pa_nil)))))))), ?_⟩
    refine Z.w_start (σ' := [some (.ref t)]) rfl ?_
    walk_at "w"
    exact q
def spIs (K : PySem.W.Frag) : Sp := fun vs H Q _ => ∃ (x y : Addr) (c : MF.P) (d : MF.D), vs = [.ref x, .ref y] ∧ Fm K H x c d ∧ Fm K H y c d ∧ Q (.bl true) H
theorem use_is {x y : Addr} {c : MF.P} {d : MF.D} {H : Hp} {Q : VK} {E : XK} (h1 : Fm K H x c d) (h2 : Fm K H y c d) (q : Q (.bl true) H) : spIs K [.ref x, .ref y] H Q E := ⟨x, y, c, d, rfl, h1, h2, q⟩
theorem ok_is (T : Txt K mg) : FnOk P w K mg base CX0 3 T.f_is T.fd_is ["_law_told", "_law_due"] (spIs K) := by
  have G_whole := ok_whole (P := P) (w := w) (base := base) T
  have G_pair := ok_pair (P := P) (w := w) (base := base) T
  refine T.F_is.ok sc_is (fun vs H Q E h => ?_) (fun cdv A outer s H vs Q E hr h => ?_)
  · obtain ⟨x, y, c, d, rfl, _⟩ := h
    rfl
  · obtain ⟨x, y, c, d, rfl, hx, hy, q⟩ := h
    obtain ⟨tc, tr, rs, f1, f2, f3, f4⟩ := id hx
    refine ⟨_, (pss_cons (ps_if (PW.pt (pw_or (pt_not (pt_val (pe_callB call_isi (by rfl) T.m_isinstance (by decide +kernel) (pa_cons (pv 0) (pa_cons (pe_bltn (v := .ty "tuple") (by rfl) T.m_tuple (by decide +kernel) rfl) pa_nil))))) (pw_or (pt_cmpR op_ne (pe_callB call_len_seq (by rfl) T.m_len (by decide +kernel) (pa_cons (pv 0) pa_nil)) pe_int (nomark _)) (pw_or (pt_not (pt_val (pe_call G_pair (hr.mono (by decide)) (by rfl) T.g_pair T.F_pair.kp T.b_pair .nil pass0 (pa_cons (pe_ix ix_tup (pv 0) pe_int (fun _ _ => rfl)) pa_nil)))) (pw_or1 (pt_not (pt_val (pe_callB call_isi (by rfl) T.m_isinstance (by decide +kernel) (pa_cons (pe_ix ix_tup (pv 0) pe_int (fun _ _ => rfl)) (pa_cons (pe_bltn (v := .ty "tuple") (by rfl) T.m_tuple (by decide +kernel) rfl) pa_nil)))))))))) (pss_one (ps_ret pe_bl)) pss_nil)
 (pss_cons (ps_for PassesOwn.never rfl (pi_tup (pe_ix ix_tup (pv 0) pe_int (fun _ _ => rfl))) (pg_name (i := 2) sc_is.nd rfl (.inl rfl)) (pss_one (ps_if (PW.pt (pw_or (pt_not (pt_val (pe_callB call_isi (by rfl) T.m_isinstance (by decide +kernel) (pa_cons (pv 2) (pa_cons (pe_bltn (v := .ty "tuple") (by rfl) T.m_tuple (by decide +kernel) rfl) pa_nil))))) (pw_or (pt_cmpR op_ne (pe_callB call_len_seq (by rfl) T.m_len (by decide +kernel) (pa_cons (pv 2) pa_nil)) pe_int (nomark _)) (pw_or (pt_not (pt_val (pe_call G_whole (hr.mono (by decide)) (by rfl) T.g_whole T.F_whole.kp T.b_whole .nil pass0 (pa_cons (pe_ix ix_tup (pv 2) pe_int (fun _ _ => rfl)) pa_nil)))) (pw_or1 (pt_not (pt_val (pe_call G_pair (hr.mono (by decide)) (by rfl) T.g_pair T.F_pair.kp T.b_pair .nil pass0 (pa_cons (pe_ix ix_tup (pv 2) pe_int (fun _ _ => rfl)) pa_nil))))))))) (pss_one (ps_ret pe_bl)) pss_nil)))
 (pss_one (ps_ret (pe_cmpR (op_eqD hr.units) (pv 0) (pv 1) (nomark _)))))), ?_⟩
    refine Z.w_start (σ' := [some (.ref x), some (.ref y), none]) rfl ?_
    walk_at "w"
    refine use_pair f2 ?_
    walk_at "w"
    refine for_tup (K := K) (xs := rs) (fun i σ H' => ∃ x3, σ = [some (.ref x), some (.ref y), x3] ∧ H' = H) ?_ ?_ ?_ ?_
    · exact ⟨_, rfl, rfl⟩
    · rintro i σ H' _ ⟨x3, rfl, rfl⟩
      exact f3
    · rintro i v σ H' hxi ⟨x3, rfl, rfl⟩
      obtain ⟨r, hr1, t1, c1, rfl, w1, w2⟩ := f4.get hxi
      walk_at "w"
      refine use_pair w2 ?_
      walk_at "w"
      first | exact ⟨_, rfl, rfl⟩ | exact rfl
    · rintro σ H' ⟨x3, rfl, rfl⟩
      walk_at "w"
      exact eq_fm hx hy q
theorem dict_nodup {H : Hp} {kvs : List (Key × V)} {D : MF.D} (h : PySem.Paired (KvR K H) kvs D) (hn : ND D) : (kvs.map (·.1)).Nodup := by
  rw [kv_keys h]
  exact List.pairwise_map.mpr (List.Pairwise.imp (fun h e => h (Sum.inl.inj e)) hn)
theorem dict_refs {H : Hp} : ∀ {kvs : List (Key × V)} {D : MF.D}, PySem.Paired (KvR K H) kvs D → ∀ p ∈ kvs, ∃ t, p.2 = V.ref t
  | _, _, .nil, p, hp => nomatch hp
  | _, _, .cons h t, p, hp => by
    rcases List.mem_cons.mp hp with e | hm
    · obtain ⟨t', e', _⟩ := h.2
      exact ⟨t', by rw [e, e']⟩
    · exact dict_refs t p hm
theorem dp_ints {H : Hp} {a : Addr} {ns : List Int} (h : SqL K H a (ns.map V.int)) : Dp K H (.ref a) (.list (ns.map PyData.int)) := by
  refine .lst h ?_
  clear h
  induction ns with
  | nil => exact .nil
  | cons n ns ih => exact .cons (.int n) ih
theorem eq_ints {x y : Addr} {ns : List Int} {H : Hp} {Q : VK} (h1 : SqL K H x (ns.map V.int)) (h2 : SqL K H y (ns.map V.int)) (q : Q (.bl true) H) : rEqD K (.ref x) (.ref y) H Q :=
  ⟨_, _, dp_ints h1, dp_ints h2, PySem.W.ke_shaped_ints ns, PySem.W.ke_shaped_ints ns, by
    rw [SeqAt.eqv_refl _ (SeqAt.canLay_of_shaped (PySem.W.ke_shaped_ints ns))]
    exact q⟩
def spValued (K : PySem.W.Frag) : Sp := fun vs H Q _ => ∃ (f v x : Addr) (c : MF.P) (d D : MF.D) (n : Nat), vs = [.ref f, .ref v, .ref x] ∧ Fm K H f c d ∧ DictAt K H v D ∧ Rt K H x (worthP c d D) ∧ ND D ∧ Bd n c ∧ AllBd 123 d ∧ AllBd 61 D ∧ (∀ r ∈ d, has D r.1 = true) ∧ 0 < n ∧ n + d.length * 185 ≤ 8600 ∧ ∀ H', Same H H' → Q (.bl true) H'
theorem use_valued {f v x : Addr} {c : MF.P} {d D : MF.D} {n : Nat} {H : Hp} {Q : VK} {E : XK} (h1 : Fm K H f c d) (h2 : DictAt K H v D) (hx : Rt K H x (worthP c d D)) (hn : ND D) (h3 : Bd n c) (h4 : AllBd 123 d) (h5 : AllBd 61 D) (h6 : ∀ r ∈ d, has D r.1 = true) (h7 : 0 < n) (h8 : n + d.length * 185 ≤ 8600)
    (h : ∀ H', Same H H' → Q (.bl true) H') : spValued K [.ref f, .ref v, .ref x] H Q E := ⟨f, v, x, c, d, D, n, rfl, h1, h2, hx, hn, h3, h4, h5, h6, h7, h8, h⟩
theorem ok_valued (T : Txt K mg) : FnOk P w K mg base CX0 4 T.f_valued T.fd_valued ["_law_f", "_law_values_here", "_law_due"] (spValued K) := by
  have G_form_value := ok_form_value (P := P) (w := w) (base := base) T
  have G_pair := ok_pair (P := P) (w := w) (base := base) T
  refine T.F_valued.ok sc_valued (fun vs H Q E h => ?_) (fun cdv A outer s H vs Q E hr h => ?_)
  · obtain ⟨f, v, x, c, d, D, n, rfl, _⟩ := h
    rfl
  · obtain ⟨f, v, x, c, d, D, n, rfl, hf, hv, hx, hnd, h3, h4, h5, h6, h7, h8, h⟩ := h
    obtain ⟨kvs, k1, k2⟩ := id hv
    refine ⟨_, (pss_cons (ps_set (i := 3) sc_valued.nd rfl (.inl rfl) (pe_callTy call_dictD (by rfl) T.m_dict (by decide +kernel) (pa_cons (pv 1) pa_nil)))
 (pss_cons (ps_set (i := 4) sc_valued.nd rfl (.inl rfl) (pe_call G_form_value (hr.mono (by decide)) (by rfl) T.g_form_value T.F_form_value.kp T.b_form_value .nil pass0 (pa_cons (pv 0) (pa_cons (pv 3) pa_nil))))
 (pss_one (ps_ret (pe_and (pe_call G_pair (hr.mono (by decide)) (by rfl) T.g_pair T.F_pair.kp T.b_pair .nil pass0 (pa_cons (pv 4) pa_nil)) (pe_and (pe_cmpR (op_eqD hr.units) (pv 4) (pv 2) (nomark _)) (pe_and (pe_cmpR (DT.op_eq_dictR hr.units0) (pv 3) (pv 1) (nomark _)) (pe_one (pe_cmpR (op_eqD hr.units) (pe_callTy (call_listD rfl) (by rfl) T.m_list (by decide +kernel) (pa_cons (pv 3) pa_nil)) (pe_callTy (call_listD rfl) (by rfl) T.m_list (by decide +kernel) (pa_cons (pv 1) pa_nil)) (nomark _)))))))))), ?_⟩
    refine Z.w_start (σ' := [some (.ref f), some (.ref v), some (.ref x), none, none]) rfl ?_
    walk_at "w"
    refine ⟨v, kvs, rfl, .inl k1, fun dd hdd => ?_⟩
    have s0 := same_of (Same.refl H) hdd (o := .dK kvs)
    have d0 : DictAt K (upd H dd (.dK kvs)) dd D := ⟨kvs, upd_same, Paired.mapP k2 fun _ _ h => h.tu (.ofS s0)⟩
    walk_at "w"
    refine use_worth (hf.tu (.ofS s0)) d0 h3 h4 h5 h6 h7 h8 fun t H1 s1 ht => ?_
    have hx1 := hx.tu (.ofS (s0.trans s1))
    have e1 := s1 _ _ (upd_same (H := H) (a := dd) (o := .dK kvs))
    have e2 := (s0.trans s1) _ _ k1
    walk_at "w"
    refine use_pair ht ?_
    walk_at "w"
    refine eq_rt ht hx1 ?_
    walk_at "w"
    refine ⟨dd, v, kvs, rfl, rfl, e1, e2, dict_nodup k2 hnd, dict_refs k2, ?_⟩
    walk_at "w"
    refine ⟨dd, kvs, rfl, .inl e1, fun p hp => ?_⟩
    have s3 := same_of (Same.refl H1) hp (o := .lst (kvs.map fun kv => kV kv.1))
    walk_at "w"
    refine ⟨v, kvs, rfl, .inl (s3 _ _ e2), fun p2 hp2 => ?_⟩
    rw [kv_keysV k2] at hp2 ⊢
    walk_at "w"
    refine eq_ints (.inl (.inl (upd_of hp2 upd_same))) (.inl (.inl upd_same)) ?_
    walk_at "w"
    exact h _ (same_of (same_of (s0.trans s1) hp) hp2)
end
end L

namespace L
open PySem PySem.Spec PyProof.Rows L2 Z M MF DT
section
variable {P : Program} {w : World} {K : PySem.W.Frag} {mg : Str → Option Value} {base : Heap}
theorem worth_sum {n : Nat} {c e : MF.P} {d d2 rt D : MF.D} (o1 : Fo n c d) (o2 : Fo n e d2) (hD : AllLw D) (hr : Rows (sumD d d2) rt) : worthP (add c e) rt D = add (worthP c d D) (worthP e d2 D) := by
  obtain ⟨n1, n2, n3⟩ := sumD_facts (g := d2) o1.nd o1.b.lw o2.b.lw
  have lr : AllLw rt := fun r hm => by
    have := ((rows_perm n1 hr).mem_iff.mp hm)
    exact n2 r (List.mem_filter.mp this).1
  obtain ⟨a1, a2⟩ := worth_q hD (lw_add o1.c.1 o2.c.1) lr
  obtain ⟨b1, b2⟩ := worth_q hD o1.c.1 o1.b.lw
  obtain ⟨e1, e2⟩ := worth_q hD o2.c.1 o2.b.lw
  refine qv_inj a1 (lw_add b1 e1) ?_
  rw [a2, qv_add b1 e1, b2, e2, qv_add o1.c.1 o2.c.1, rows_Sv n1 n2 hr, n3]
  grind
theorem worth_mul {n : Nat} {a c : MF.P} {d rm D : MF.D} (ha : Lw a) (o1 : Fo n c d) (hD : AllLw D) (hr : Rows (mulD a d) rm) : worthP (mul a c) rm D = mul a (worthP c d D) := by
  have n1 := mulD_nd (a := a) o1.nd
  have n2 : AllLw (mulD a d) := fun r hm => by
    obtain ⟨x, hx, e⟩ := List.mem_map.mp hm
    rw [← e]
    exact lw_mul ha (o1.b.lw x hx)
  have lr : AllLw rm := fun r hm => by
    have := ((rows_perm n1 hr).mem_iff.mp hm)
    exact n2 r (List.mem_filter.mp this).1
  obtain ⟨a1, a2⟩ := worth_q hD (lw_mul ha o1.c.1) lr
  obtain ⟨b1, b2⟩ := worth_q hD o1.c.1 o1.b.lw
  refine qv_inj a1 (lw_mul ha b1) ?_
  rw [a2, qv_mul ha b1, b2, qv_mul ha o1.c.1, rows_Sv n1 n2 hr, mulD_Sv ha o1.b.lw]
  grind
theorem Fo.mono {n m : Nat} {c : MF.P} {d : MF.D} (h : Fo n c d) (l : n ≤ m) : Fo m c d := ⟨h.c.mono l, h.b.mono l, h.asc, h.nz⟩
theorem sum_comm {n : Nat} {c e : MF.P} {d d2 r1 r2 : MF.D} (o1 : Fo n c d) (o2 : Fo n e d2) (h1 : Rows (sumD d d2) r1) (h2 : Rows (sumD d2 d) r2) : r1 = r2 :=
  rows_uniq (fun k => by rw [sumD_get o2.nd o1.b.lw o2.b.lw, sumD_get o1.nd o2.b.lw o1.b.lw, add_comm]) h1 h2
theorem sum_twice {n : Nat} {c : MF.P} {d r1 r2 : MF.D} (o1 : Fo n c d) (h1 : Rows (sumD d d) r1) (h2 : Rows (mulD (2, 1) d) r2) : r1 = r2 :=
  rows_uniq (fun k => by rw [sumD_get o1.nd o1.b.lw o1.b.lw, mulD_get (lw_int 2) o1.b.lw, twice (lw_get o1.b.lw k)]) h1 h2
theorem sum_opp {n : Nat} {c : MF.P} {d r1 rn : MF.D} (o1 : Fo n c d) (on : Fo n (mul (-1, 1) c) rn) (hn : Rows (mulD (-1, 1) d) rn) (h1 : Rows (sumD d rn) r1) : r1 = [] := by
  refine rows_zero (fun k => ?_) h1
  rw [sumD_get on.nd o1.b.lw on.b.lw]
  have e : MF.get rn k = MF.get (mulD (-1, 1) d) k := by
    have hm := hn.2 k (MF.get (mulD (-1, 1) d) k)
    by_cases z : (MF.get (mulD (-1, 1) d) k).1 = 0
    · have hl : Lw (MF.get (mulD (-1, 1) d) k) := by rw [mulD_get (lw_int (-1)) o1.b.lw]; exact lw_mul (lw_int (-1)) (lw_get o1.b.lw k)
      rw [(zero_iff hl).mp z]
      refine get_no (Bool.eq_false_iff.mpr fun hh => ?_)
      have k1 := (hn.2 k _).mp (mem_of_get on.nd hh)
      rw [k1.1] at k1
      exact k1.2 z
    · exact get_of_mem on.nd (hm.mpr ⟨rfl, z⟩)
  rw [e, mulD_get (lw_int (-1)) o1.b.lw, opp (lw_get o1.b.lw k)]
def spAll (K : PySem.W.Frag) : Sp := fun vs H Q _ => ∃ (f g x v : Addr) (a c e : MF.P) (d d2 D : MF.D), vs = [.ref f, .ref g, .ref x, .ref v] ∧ FmZ K H f c d ∧ FmZ K H g e d2 ∧ Rt K H x a ∧ DictAt K H v D ∧ Fo 61 c d ∧ Fo 61 e d2 ∧ Bd 61 a ∧ ND D ∧ AllBd 61 D ∧ (∀ r ∈ d ++ d2, has D r.1 = true) ∧ d.length ≤ 12 ∧ d2.length ≤ 19 ∧ ∀ H', Same H H' → Q (.bl true) H'
theorem use_all {f g x v : Addr} {a c e : MF.P} {d d2 D : MF.D} {H : Hp} {Q : VK} {E : XK} (h1 : FmZ K H f c d) (h2 : FmZ K H g e d2) (h3 : Rt K H x a) (h4 : DictAt K H v D) (h5 : Fo 61 c d) (h6 : Fo 61 e d2) (h7 : Bd 61 a) (h8 : ND D) (h9 : AllBd 61 D) (hA : ∀ r ∈ d ++ d2, has D r.1 = true) (hB : d.length ≤ 12) (hC : d2.length ≤ 19)
    (h : ∀ H', Same H H' → Q (.bl true) H') : spAll K [.ref f, .ref g, .ref x, .ref v] H Q E := ⟨f, g, x, v, a, c, e, d, d2, D, rfl, h1, h2, h3, h4, h5, h6, h7, h8, h9, hA, hB, hC, h⟩
theorem has_sum {d d2 D : MF.D} {rt : MF.D} {n : Nat} {c e : MF.P} (o1 : Fo n c d) (o2 : Fo n e d2) (hall : ∀ r ∈ d ++ d2, has D r.1 = true) (hr : Rows (sumD d d2) rt) : ∀ r ∈ rt, has D r.1 = true := fun r hm => by
  have k := (hr.2 r.1 r.2).mp hm
  rw [sumD_get o2.nd o1.b.lw o2.b.lw] at k
  cases h1 : has d r.1 with
  | true => have z := hall (r.1, MF.get d r.1) (List.mem_append_left _ (mem_of_get o1.nd h1)); exact z
  | false =>
    cases h2 : has d2 r.1 with
    | true => have z := hall (r.1, MF.get d2 r.1) (List.mem_append_right _ (mem_of_get o2.nd h2)); exact z
    | false =>
      rw [get_no h1, get_no h2, add_zero lw_zero] at k
      exact absurd (by rw [k.1]) k.2
theorem has_mul {a : MF.P} {d D rm : MF.D} {n : Nat} {c : MF.P} (ha : Lw a) (o1 : Fo n c d) (hall : ∀ r ∈ d, has D r.1 = true) (hr : Rows (mulD a d) rm) : ∀ r ∈ rm, has D r.1 = true := fun r hm => by
  have k := (hr.2 r.1 r.2).mp hm
  rw [mulD_get ha o1.b.lw] at k
  cases h1 : has d r.1 with
  | true => have z := hall (r.1, MF.get d r.1) (mem_of_get o1.nd h1); exact z
  | false =>
    rw [get_no h1] at k
    have e : mul a (0, 1) = (0, 1) := qv_inj (lw_mul ha lw_zero) lw_zero (by rw [qv_mul ha lw_zero, qv_zero]; exact Rat.mul_zero _)
    rw [e] at k
    exact absurd (by rw [k.1]) k.2
theorem ok_all (T : Txt K mg) : FnOk P w K mg base CX0 5 T.f_all T.fd_all ["_law_f", "_law_g", "_law_a", "_law_values_here"] (spAll K) := by
  have G_summed := ok_summed (P := P) (w := w) (base := base) T
  have G_multiple := ok_multiple (P := P) (w := w) (base := base) T
  have G_worth := ok_worth (P := P) (w := w) (base := base) T
  have G_add := ok_add (P := P) (w := w) (base := base) T
  have G_mul := ok_mul (P := P) (w := w) (base := base) T
  have G_is := ok_is (P := P) (w := w) (base := base) T
  have G_valued := ok_valued (P := P) (w := w) (base := base) T
  have G_form_plus := ok_form_plus (P := P) (w := w) (base := base) T
  have G_form_times := ok_form_times (P := P) (w := w) (base := base) T
  refine T.F_all.ok sc_all (fun vs H Q E h => ?_) (fun cdv A outer s H vs Q E hr h => ?_)
  · obtain ⟨f, g, x, v, a, c, e, d, d2, D, rfl, _⟩ := h
    rfl
  · obtain ⟨f, g, x, v, a, c, e, d, d2, D, rfl, hf, hg, hx, hv, o1, o2, hba, hnd, hD, hall, l1, l2, h⟩ := h
    have o1' := o1.mono (show 61 ≤ 62 by decide)
    have o2' := o2.mono (show 61 ≤ 62 by decide)
    refine ⟨_, (pss_cons (ps_set (i := 4) sc_all.nd rfl (.inl rfl) (pe_call G_summed (hr.mono (by decide)) (by rfl) T.g_summed T.F_summed.kp T.b_summed .nil pass0 (pa_cons (pv 0) (pa_cons (pv 1) pa_nil))))
 (pss_cons (ps_set (i := 5) sc_all.nd rfl (.inl rfl) (pe_call G_multiple (hr.mono (by decide)) (by rfl) T.g_multiple T.F_multiple.kp T.b_multiple .nil pass0 (pa_cons (pe_tup (pa_cons pe_int (pa_cons pe_int pa_nil))) (pa_cons (pv 0) pa_nil))))
 (pss_cons (ps_set (i := 6) sc_all.nd rfl (.inl rfl) (pe_call G_multiple (hr.mono (by decide)) (by rfl) T.g_multiple T.F_multiple.kp T.b_multiple .nil pass0 (pa_cons (pv 2) (pa_cons (pv 0) pa_nil))))
 (pss_cons (ps_set (i := 7) sc_all.nd rfl (.inl rfl) (pe_call G_worth (hr.mono (by decide)) (by rfl) T.g_worth T.F_worth.kp T.b_worth .nil pass0 (pa_cons (pv 0) (pa_cons (pv 3) pa_nil))))
 (pss_cons (ps_set (i := 8) sc_all.nd rfl (.inl rfl) (pe_call G_worth (hr.mono (by decide)) (by rfl) T.g_worth T.F_worth.kp T.b_worth .nil pass0 (pa_cons (pv 1) (pa_cons (pv 3) pa_nil))))
 (pss_cons (ps_set (i := 9) sc_all.nd rfl (.inl rfl) (pe_call G_add (hr.mono (by decide)) (by rfl) T.g_add T.F_add.kp T.b_add .nil pass0 (pa_cons (pv 7) (pa_cons (pv 8) pa_nil))))
 (pss_cons (ps_set (i := 10) sc_all.nd rfl (.inl rfl) (pe_call G_mul (hr.mono (by decide)) (by rfl) T.g_mul T.F_mul.kp T.b_mul .nil pass0 (pa_cons (pv 2) (pa_cons (pv 7) pa_nil))))
 (pss_cons (ps_for PassesOwn.never rfl (pi_range1 (by rfl) T.m_range (pa_cons pe_int pa_nil)) (pg_name (i := 11) sc_all.nd rfl (.inl rfl)) (pss_cons (ps_if (PW.pt (pw_or (pt_not (pt_val (pe_call G_is (hr.mono (by decide)) (by rfl) T.g_is T.F_is.kp T.b_is .nil pass0 (pa_cons (pe_call G_form_plus (hr.mono (by decide)) (by rfl) T.g_form_plus T.F_form_plus.kp T.b_form_plus .nil pass0 (pa_cons (pv 0) (pa_cons (pv 1) pa_nil))) (pa_cons (pv 4) pa_nil))))) (pw_or1 (pt_not (pt_val (pe_call G_is (hr.mono (by decide)) (by rfl) T.g_is T.F_is.kp T.b_is .nil pass0 (pa_cons (pe_call G_form_plus (hr.mono (by decide)) (by rfl) T.g_form_plus T.F_form_plus.kp T.b_form_plus .nil pass0 (pa_cons (pv 1) (pa_cons (pv 0) pa_nil))) (pa_cons (pv 4) pa_nil)))))))) (pss_one (ps_ret pe_bl)) pss_nil)
 (pss_cons (ps_if (PW.pt (pw_or (pt_not (pt_val (pe_call G_is (hr.mono (by decide)) (by rfl) T.g_is T.F_is.kp T.b_is .nil pass0 (pa_cons (pe_call G_form_plus (hr.mono (by decide)) (by rfl) T.g_form_plus T.F_form_plus.kp T.b_form_plus .nil pass0 (pa_cons (pv 0) (pa_cons (pv 0) pa_nil))) (pa_cons (pv 5) pa_nil))))) (pw_or1 (pt_not (pt_val (pe_call G_is (hr.mono (by decide)) (by rfl) T.g_is T.F_is.kp T.b_is .nil pass0 (pa_cons (pe_call G_form_times (hr.mono (by decide)) (by rfl) T.g_form_times T.F_form_times.kp T.b_form_times .nil pass0 (pa_cons (pv 2) (pa_cons (pv 0) pa_nil))) (pa_cons (pv 6) pa_nil)))))))) (pss_one (ps_ret pe_bl)) pss_nil)
 (pss_cons (ps_if (pt_not (pt_val (pe_call G_is (hr.mono (by decide)) (by rfl) T.g_is T.F_is.kp T.b_is .nil pass0 (pa_cons (pe_call G_form_plus (hr.mono (by decide)) (by rfl) T.g_form_plus T.F_form_plus.kp T.b_form_plus .nil pass0 (pa_cons (pv 0) (pa_cons (pe_call G_multiple (hr.mono (by decide)) (by rfl) T.g_multiple T.F_multiple.kp T.b_multiple .nil pass0 (pa_cons (pe_tup (pa_cons (pe_un un_neg pe_int) (pa_cons pe_int pa_nil))) (pa_cons (pv 0) pa_nil))) pa_nil))) (pa_cons (pe_tup (pa_cons (pe_tup (pa_cons pe_int (pa_cons pe_int pa_nil))) (pa_cons (pe_tup pa_nil) pa_nil))) pa_nil))))) (pss_one (ps_ret pe_bl)) pss_nil)
 (pss_cons (ps_if (PW.pt (pw_or (pt_not (pt_val (pe_call G_valued (hr.mono (by decide)) (by rfl) T.g_valued T.F_valued.kp T.b_valued .nil pass0 (pa_cons (pv 0) (pa_cons (pv 3) (pa_cons (pv 7) pa_nil)))))) (pw_or1 (pt_not (pt_val (pe_call G_valued (hr.mono (by decide)) (by rfl) T.g_valued T.F_valued.kp T.b_valued .nil pass0 (pa_cons (pv 1) (pa_cons (pv 3) (pa_cons (pv 8) pa_nil))))))))) (pss_one (ps_ret pe_bl)) pss_nil)
 (pss_one (ps_if (PW.pt (pw_or (pt_not (pt_val (pe_call G_valued (hr.mono (by decide)) (by rfl) T.g_valued T.F_valued.kp T.b_valued .nil pass0 (pa_cons (pv 4) (pa_cons (pv 3) (pa_cons (pv 9) pa_nil)))))) (pw_or1 (pt_not (pt_val (pe_call G_valued (hr.mono (by decide)) (by rfl) T.g_valued T.F_valued.kp T.b_valued .nil pass0 (pa_cons (pv 6) (pa_cons (pv 3) (pa_cons (pv 10) pa_nil))))))))) (pss_one (ps_ret pe_bl)) pss_nil)))))))
 (pss_one (ps_ret pe_bl)))))))))), ?_⟩
    refine Z.w_start (σ' := [some (.ref f), some (.ref g), some (.ref x), some (.ref v), none, none, none, none, none, none, none, none]) rfl ?_
    walk_at "w"
    refine use_sum hf hg.fm o1' o2' (by omega) l2 fun t1 H1 rt s1 _ ft hrt => ?_
    walk_at "w"
    rename_i z2 hz2
    have s2' := same_of (Same.refl H1) hz2 (o := .tup [.int 2, .int 1])
    have s2 := s1.trans s2'
    refine use_mulF (.new (a := (2, 1))) (hf.fm.tu (.ofS s2)) ⟨lw_int 2, by decide, by decide⟩ o1 (by omega) fun t3 H3 rw3 s3 _ fw hrw => ?_
    have k3 := s2.trans s3
    walk_at "w"
    refine use_mulF (hx.tu (.ofS k3)) (hf.fm.tu (.ofS k3)) hba o1 (by omega) fun t4 H4 rm s4 _ fm hrm => ?_
    have k4 := k3.trans s4
    have hD123 : AllBd 123 d := o1.b.mono (by decide)
    have hD1232 : AllBd 123 d2 := o2.b.mono (by decide)
    have hall1 : ∀ r ∈ d, has D r.1 = true := fun r hm => hall r (List.mem_append_left _ hm)
    have hall2 : ∀ r ∈ d2, has D r.1 = true := fun r hm => hall r (List.mem_append_right _ hm)
    walk_at "w"
    refine use_worth (hf.fm.tu (.ofS k4)) (hv.mo (.of k4)) o1.c hD123 hD hall1 (by decide) (by omega) fun t5 H5 s5 h5 => ?_
    have k5 := k4.trans s5
    walk_at "w"
    refine use_worth (hg.fm.tu (.ofS k5)) (hv.mo (.of k5)) o2.c hD1232 hD hall2 (by decide) (by omega) fun t6 H6 s6 h6 => ?_
    have k6 := k5.trans s6
    have w1 := worth_bd hD (by decide) o1.c o1.b
    have w2 := worth_bd hD (by decide) o2.c o2.b
    walk_at "w"
    refine use_bin (h5.tu (.ofS s6)) h6 w1 w2 (by omega) (by omega) (by omega) fun t7 h7 => ?_
    have s7 := same_of (Same.refl H6) h7 (o := tupP (add (worthP c d D) (worthP e d2 D)))
    have k7 := k6.trans s7
    walk_at "w"
    refine use_bin (hx.tu (.ofS k7)) (h5.tu (.ofS (s6.trans s7))) hba w1 (by omega) (by omega) (by omega) fun t8 h8 => ?_
    have s8 := same_of (Same.refl _) h8 (o := tupP (mul a (worthP c d D))) (H' := upd H6 t7 (tupP (add (worthP c d D) (worthP e d2 D))))
    have k8 := k7.trans s8
    have e7 : Rt K _ t7 (add (worthP c d D) (worthP e d2 D)) := (Rt.new (K := K) (H0 := H6)).tu (.ofS s8)
    have e8 : Rt K _ t8 (mul a (worthP c d D)) := Rt.new (K := K) (H0 := upd H6 t7 (tupP (add (worthP c d D) (worthP e d2 D))))
    have e5 := h5.tu (.ofS ((s6.trans s7).trans s8))
    have e6 := h6.tu (.ofS (s7.trans s8))
    have e1 := ft.tu (.ofS (((((s2'.trans s3).trans s4).trans s5).trans s6).trans (s7.trans s8)))
    have e3 := fw.tu (.ofS (((s4.trans s5).trans s6).trans (s7.trans s8)))
    have e4 := fm.tu (.ofS ((s5.trans s6).trans (s7.trans s8)))
    generalize upd (upd H6 t7 (tupP (add (worthP c d D) (worthP e d2 D)))) t8 (tupP (mul a (worthP c d D))) = Hs at *
    have n1 := sum_nd o1 o2
    have bt : AllBd 123 rt := rows_bd n1 (sumD_bd (by decide) o2.nd o1.nd o2.b o1.b) hrt
    have lt : rt.length ≤ 31 := Nat.le_trans (rows_len n1 hrt) (Nat.le_trans sumD_len (by omega))
    have nm := mulD_nd (a := a) o1.nd
    have bm : AllBd 123 rm := (rows_bd nm (mulD_bd hba o1.b) hrm).mono (by decide)
    have lm : rm.length ≤ 12 := Nat.le_trans (rows_len nm hrm) (by rw [mulD_len]; exact l1)
    have ct : Bd 123 (add c e) := bd_add o1.c o2.c
    have cm : Bd 123 (mul a c) := (bd_mul hba o1.c).mono (by decide)
    rw [← worth_sum o1 o2 hD.lw hrt] at e7
    rw [← worth_mul hba.1 o1 hD.lw hrm] at e8
    have hallt := has_sum o1 o2 hall hrt
    have hallm := has_mul hba.1 o1 hall1 hrm
    walk_at "w"
    refine ⟨by decide, by decide, ?_⟩
    refine for_range (lo := 0) (n := _) (fun i σ H' => ∃ (x11 : Option V), σ = [some (.ref f), some (.ref g), some (.ref x), some (.ref v), some (.ref t1), some (.ref t3), some (.ref t4), some (.ref t5), some (.ref t6), some (.ref t7), some (.ref t8), x11] ∧ Same Hs H') ?_ ?_ ?_
    · exact ⟨_, rfl, Same.refl _⟩
    · rintro i σ H' hi ⟨x11, rfl, sm⟩
      have u1 := k8.trans sm
      walk_at "w"
      refine use_sum (hf.tu (.ofS u1)) (hg.fm.tu (.ofS u1)) o1' o2' (by omega) l2 fun y1 G1 r1 q1 _ m1 hr1 => ?_
      have er1 := rows_uniq (fun _ => rfl) hr1 hrt
      subst er1
      have u2 := sm.trans q1
      walk_at "w"
      refine use_is m1 (e1.tu (.ofS u2)) ?_
      walk_at "w"
      refine use_sum (hg.tu (.ofS (k8.trans u2))) (hf.fm.tu (.ofS (k8.trans u2))) o2' o1' l2 (by omega) fun y2 G2 r2 q2 _ m2 hr2 => ?_
      have er2 := sum_comm o1 o2 hr1 hr2
      subst er2
      have u3 := u2.trans q2
      rw [add_comm] at m2
      walk_at "w"
      refine use_is m2 (e1.tu (.ofS u3)) ?_
      walk_at "w"
      refine use_sum (hf.tu (.ofS (k8.trans u3))) (hf.fm.tu (.ofS (k8.trans u3))) o1' o1' (by omega) (by omega) fun y3 G3 r3 q3 _ m3 hr3 => ?_
      have er3 := sum_twice o1 hr3 hrw
      subst er3
      have u4 := u3.trans q3
      rw [twice o1.c.1] at m3
      walk_at "w"
      refine use_is m3 (e3.tu (.ofS u4)) ?_
      walk_at "w"
      refine use_mulF (hx.tu (.ofS (k8.trans u4))) (hf.fm.tu (.ofS (k8.trans u4))) hba o1 (by omega) fun y4 G4 r4 q4 _ m4 hr4 => ?_
      have er4 := rows_uniq (fun _ => rfl) hr4 hrm
      subst er4
      have u5 := u4.trans q4
      walk_at "w"
      refine use_is m4 (e4.tu (.ofS u5)) ?_
      walk_at "w"
      rename_i z5 hz5
      have q5 := same_of (Same.refl G4) hz5 (o := .tup [.int (-1), .int 1])
      have u6 := u5.trans q5
      refine use_mulF (.new (a := (-1, 1))) (hf.fm.tu (.ofS (k8.trans u6))) ⟨lw_int (-1), by decide, by decide⟩ o1 (by omega) fun y6 G6 rn q6 _ m6 hr6 => ?_
      have u7 := u6.trans q6
      have nn := mulD_nd (a := (-1, 1)) o1.nd
      have bn1 : Bd 1 ((-1, 1) : MF.P) := ⟨lw_int (-1), by decide, by decide⟩
      have on : Fo 62 (mul (-1, 1) c) rn := Fo.of ((bd_mul bn1 o1.c).mono (by decide)) nn ((mulD_bd bn1 o1.b).mono (by decide)) hr6
      have ln : rn.length ≤ 12 := Nat.le_trans (rows_len nn hr6) (by rw [mulD_len]; exact l1)
      walk_at "w"
      refine use_sum (hf.tu (.ofS (k8.trans u7))) m6 o1' on (by omega) (by omega) fun y7 G7 r7 q7 _ m7 hr7 => ?_
      have er7 := sum_opp o1' on hr6 hr7
      subst er7
      rw [opp o1.c.1] at m7
      have u8 := u7.trans q7
      walk_at "w"
      rename_i b1 hb1 b2 hb2 b3 hb3
      have q8 := same_of (same_of (Same.refl G7) hb1 (o := .tup [.int 0, .int 1])) hb2 (o := .tup [])
      have q9 := same_of q8 hb3 (o := .tup [.ref b1, .ref b2])
      refine use_is (m7.tu (.ofS q9)) (b_fm ((Rt.new (K := K) (a := (0, 1))).tu (.ofS (same_of (Same.refl _) hb2))) (.inl (.inl upd_same)) .nil hb3) ?_
      have u9 := u8.trans q9
      walk_at "w"
      refine use_valued (hf.fm.tu (.ofS (k8.trans u9))) (hv.mo (.of (k8.trans u9))) (e5.tu (.ofS u9)) hnd o1.c hD123 hD hall1 (by decide) (by omega) fun G10 q10 => ?_
      have u10 := u9.trans q10
      walk_at "w"
      refine use_valued (hg.fm.tu (.ofS (k8.trans u10))) (hv.mo (.of (k8.trans u10))) (e6.tu (.ofS u10)) hnd o2.c hD1232 hD hall2 (by decide) (by omega) fun G11 q11 => ?_
      have u11 := u10.trans q11
      walk_at "w"
      refine use_valued (e1.tu (.ofS u11)) (hv.mo (.of (k8.trans u11))) (e7.tu (.ofS u11)) hnd ct bt hD hallt (by decide) (by omega) fun G12 q12 => ?_
      have u12 := u11.trans q12
      walk_at "w"
      refine use_valued (e4.tu (.ofS u12)) (hv.mo (.of (k8.trans u12))) (e8.tu (.ofS u12)) hnd cm bm hD hallm (by decide) (by omega) fun G13 q13 => ?_
      walk_at "w"
      first | exact ⟨_, rfl, u12.trans q13⟩ | exact u12.trans q13
    · rintro σ H' ⟨x11, rfl, sm⟩
      walk_at "w"
      exact h _ (k8.trans sm)
end
end L

namespace L
open PySem PySem.Spec PyProof.Rows L2 Z M MF DT
section
variable {P : Program} {w : World} {K : PySem.W.Frag} {mg : Str → Option Value} {base : Heap}
theorem use_pool {a : Addr} {ns : List Int} {k : Int} {H : Hp} {Q : VK} {E : XK} (hS : SqL K H a (ns.map V.int)) (hl : ns.length ≤ 1000) (h0 : 0 ≤ k) (h1 : k < 2 ^ 62) (h : ∀ q o, H q = none → IsPool o → Q (.ref q) (upd H q o)) : spPool K [.ref a, .int k] H Q E := ⟨a, ns, k, rfl, hS, hl, h0, h1, h⟩
theorem seqAnd {ta tb : TE} {g : TG} {u : TS} {D : Ends} {σ : L2.St} {H : Hp} (k : V → Hp → Prop) (h : ∀ Q : VK, (∀ x H1, k x H1 → Q x H1) → tAndV ta tb σ H Q) (hk : ∀ x H1, k x H1 → g x σ H1 (u D)) : tSeq (tAsg (tAndV ta tb) g) u D σ H := h _ hk
def spLaw (K : PySem.W.Frag) : Sp := fun vs H Q _ => ∃ (a : Addr) (ns : List Int), vs = [.ref a] ∧ SqL K H a (ns.map V.int) ∧ ns.length ≤ 63 ∧ ∀ H', Q (.bl true) H'
theorem ok_law (T : Txt K mg) : FnOk P w K mg base CX0 6 T.f_law T.fd_law ["_law_script"] (spLaw K) := by
  have G_pool := ok_pool (P := P) (w := w) (base := base) T
  have G_take := ok_take (P := P) (w := w) (base := base) T
  have G_first := ok_first (P := P) (w := w) (base := base) T
  have G_second := ok_second (P := P) (w := w) (base := base) T
  have G_some := ok_some (P := P) (w := w) (base := base) T
  have G_values := ok_values (P := P) (w := w) (base := base) T
  have G_all := ok_all (P := P) (w := w) (base := base) T
  have G_is := ok_is (P := P) (w := w) (base := base) T
  have G_valued := ok_valued (P := P) (w := w) (base := base) T
  have G_constant_form := ok_constant_form (P := P) (w := w) (base := base) T
  have G_base_form := ok_base_form (P := P) (w := w) (base := base) T
  refine T.F_law.ok sc_law (fun vs H Q E h => ?_) (fun cdv A outer s H vs Q E hr h => ?_)
  · obtain ⟨a, ns, rfl, _⟩ := h
    rfl
  · obtain ⟨sa, ns, rfl, hS, hl, h⟩ := h
    refine ⟨_, (pss_cons (ps_for PassesOwn.never rfl (pi_range1 (by rfl) T.m_range (pa_cons (pe_callB (call_max2 rfl) (by rfl) T.m_max (by decide +kernel) (pa_cons pe_int (pa_cons (pe_callB (call_min2 rfl) (by rfl) T.m_min (by decide +kernel) (pa_cons pe_int (pa_cons (pe_callB call_len_seq (by rfl) T.m_len (by decide +kernel) (pa_cons (pv 0) pa_nil)) pa_nil))) pa_nil))) pa_nil)) (pg_name (i := 1) sc_law.nd rfl (.inl rfl)) (pss_cons (ps_set (i := 2) sc_law.nd rfl (.inl rfl) (pe_call G_pool (hr.mono (by decide)) (by rfl) T.g_pool T.F_pool.kp T.b_pool .nil pass0 (pa_cons (pv 0) (pa_cons (pv 1) pa_nil))))
 (pss_cons (ps_set (i := 3) sc_law.nd rfl (.inl rfl) (pe_and (pe_cmpR op_eq (pe_call G_take (hr.mono (by decide)) (by rfl) T.g_take T.F_take.kp T.b_take .nil pass0 (pa_cons (pv 2) (pa_cons pe_int pa_nil))) pe_int (nomark _)) (pe_one (pe_cmpR op_eq (pv 1) pe_int (nomark _)))))
 (pss_cons (ps_set (i := 4) sc_law.nd rfl (.inl rfl) (pe_call G_first (hr.mono (by decide)) (by rfl) T.g_first T.F_first.kp T.b_first .nil pass0 (pa_cons (pv 2) (pa_cons (pv 3) pa_nil))))
 (pss_cons (ps_set (i := 5) sc_law.nd rfl (.inl rfl) (pe_call G_second (hr.mono (by decide)) (by rfl) T.g_second T.F_second.kp T.b_second .nil pass0 (pa_cons (pv 2) (pa_cons (pv 3) (pa_cons (pv 4) pa_nil)))))
 (pss_cons (ps_set (i := 6) sc_law.nd rfl (.inl rfl) (pe_call G_some (hr.mono (by decide)) (by rfl) T.g_some T.F_some.kp T.b_some .nil pass0 (pa_cons (pv 2) (pa_cons (pv 3) pa_nil))))
 (pss_cons (ps_set (i := 7) sc_law.nd rfl (.inl rfl) (pe_call G_values (hr.mono (by decide)) (by rfl) T.g_values T.F_values.kp T.b_values .nil pass0 (pa_cons (pv 2) (pa_cons (pv 3) (pa_cons (pv 4) (pa_cons (pv 5) pa_nil))))))
 (pss_cons (ps_set (i := 8) sc_law.nd rfl (.inl rfl) (pe_op op_add pe_int (pe_call G_take (hr.mono (by decide)) (by rfl) T.g_take T.F_take.kp T.b_take .nil pass0 (pa_cons (pv 2) (pa_cons pe_int pa_nil)))))
 (pss_cons (ps_if (pt_not (pt_val (pe_call G_all (hr.mono (by decide)) (by rfl) T.g_all T.F_all.kp T.b_all .nil pass0 (pa_cons (pv 4) (pa_cons (pv 5) (pa_cons (pv 6) (pa_cons (pv 7) pa_nil))))))) (pss_one (ps_ret pe_bl)) pss_nil)
 (pss_cons (ps_if (PW.pt (pw_or (pt_not (pt_val (pe_call G_is (hr.mono (by decide)) (by rfl) T.g_is T.F_is.kp T.b_is .nil pass0 (pa_cons (pe_call G_constant_form (hr.mono (by decide)) (by rfl) T.g_constant_form T.F_constant_form.kp T.b_constant_form .nil pass0 (pa_cons (pv 6) pa_nil)) (pa_cons (pe_tup (pa_cons (pv 6) (pa_cons (pe_tup pa_nil) pa_nil))) pa_nil))))) (pw_or1 (pt_not (pt_val (pe_call G_valued (hr.mono (by decide)) (by rfl) T.g_valued T.F_valued.kp T.b_valued .nil pass0 (pa_cons (pe_tup (pa_cons (pv 6) (pa_cons (pe_tup pa_nil) pa_nil))) (pa_cons pe_dnewK (pa_cons (pv 6) pa_nil))))))))) (pss_one (ps_ret pe_bl)) pss_nil)
 (pss_one (ps_if (pt_not (pt_val (pe_call G_is (hr.mono (by decide)) (by rfl) T.g_is T.F_is.kp T.b_is .nil pass0 (pa_cons (pe_call G_base_form (hr.mono (by decide)) (by rfl) T.g_base_form T.F_base_form.kp T.b_base_form .nil pass0 (pa_cons (pv 8) pa_nil)) (pa_cons (pe_tup (pa_cons (pe_tup (pa_cons pe_int (pa_cons pe_int pa_nil))) (pa_cons (pe_tup (pa_cons (pe_tup (pa_cons (pv 8) (pa_cons (pe_tup (pa_cons pe_int (pa_cons pe_int pa_nil))) pa_nil))) pa_nil)) pa_nil))) pa_nil))))) (pss_one (ps_ret pe_bl)) pss_nil))))))))))))
 (pss_one (ps_ret pe_bl))), ?_⟩
    refine Z.w_start (σ' := [some (.ref sa), none, none, none, none, none, none, none, none]) rfl ?_
    walk_at "w"
    refine ⟨by omega, by omega, ?_⟩
    refine for_range (lo := 0) (n := _) (fun i σ H' => ∃ (x1 x2 x3 x4 x5 x6 x7 x8 : Option V), σ = [some (.ref sa), x1, x2, x3, x4, x5, x6, x7, x8] ∧ Same H H' ∧ i ≤ 64) ?_ ?_ ?_
    · exact ⟨_, _, _, _, _, _, _, _, rfl, Same.refl _, by decide⟩
    · rintro i σ H' hi ⟨x1, x2, x3, x4, x5, x6, x7, x8, rfl, sm, hi64⟩
      have hS' := sm.seq hS
      walk_at "w"
      refine use_pool hS' (by omega) (by omega) (by omega) fun q o hq1 hp1 => ?_
      have pl : PoolAt (upd H' q o) q := ⟨o, upd_same, hp1⟩
      repeat' (first | with_reducible refine seqAnd (fun x H1 => ∃ l : Bool, x = .bl l ∧ PX q (upd H' q o) H1) (fun R kk => ?_) ?_ | walk_at "w1")
      · rename_i r H1 p1 r0 r1
        walk_at "wi"
        · walk_at "w"
          exact kk _ _ ⟨_, rfl, p1⟩
        · walk_at "w"
          exact kk _ _ ⟨_, rfl, p1⟩
      · rintro x H1 ⟨l, rfl, p1⟩
        walk_at "w"
        refine use_first p1.2 fun f c d H2 p2 hf hfo hd12 => ?_
        walk_at "w"
        refine use_second p2.2 hf.fm hfo hd12 fun g e d2 H3 p3 hg hgo hd19 => ?_
        walk_at "w"
        refine use_lr p3.2 fun vx a H4 p4 ⟨x, ex, hx⟩ hba => ?_
        subst ex
        have hf3 := hf.tu (.of p3.1)
        walk_at "w"
        refine use_values p4.2 (hf3.fm.tu (.of p4.1)) (hg.fm.tu (.of p4.1)) (by omega) fun v D H5 p5 hv hnd hD hall => ?_
        have k5 := p4.trans p5
        walk_at "w"
        rename_i r6 H6 p6 r60 r61
        have k6 := p5.trans p6
        have s6 : Same H' H6 := PX.own hq1 ((((p1.trans p2).trans p3).trans p4).trans k6)
        refine use_all (hf3.tu (.of (p4.trans k6).1)) (hg.tu (.of (p4.trans k6).1)) (hx.tu (.of k6.1)) (hv.mo p6.1) hfo hgo hba hnd hD hall hd12 hd19 fun H7 s7 => ?_
        have hx7 := (hx.tu (.of k6.1)).tu (.ofS s7)
        walk_at "w"
        refine use_const hx7 fun t8 H8 s8 m8 => ?_
        walk_at "w"
        rename_i b1 hb1 b2 hb2
        have s9 := same_of (Same.refl H8) hb1 (o := .tup [])
        have s10 := same_of s9 hb2 (o := .tup [.ref x, .ref b1])
        have hx9 := (hx7.tu (.ofS s8)).tu (.ofS s9)
        have m9 := b_fm hx9 (.inl (.inl upd_same)) .nil hb2
        refine use_is (m8.tu (.ofS s10)) m9 ?_
        walk_at "w"
        rename_i b3 hb3 b4 hb4 b5 hb5
        have s11 := same_of s10 hb3 (o := .tup [])
        have s12 := same_of s11 hb4 (o := .tup [.ref x, .ref b3])
        have s13 := same_of s12 hb5 (o := .dK [])
        have hx11 := (hx7.tu (.ofS s8)).tu (.ofS s11)
        have m12 := b_fm hx11 (.inl (.inl upd_same)) .nil hb4
        refine use_valued (m12.tu (.ofS (same_of (Same.refl _) hb5))) (.nil : DictAt K _ b5 []) (((hx7.tu (.ofS s8)).tu (.ofS s13)) : Rt K _ x (worthP a [] [])) nd_nil hba (fun _ h => nomatch h) (fun _ h => nomatch h) (fun _ h => nomatch h) (by decide) (by decide) fun H14 s14 => ?_
        walk_at "w"
        refine use_base fun t15 H15 s15 m15 => ?_
        walk_at "w"
        rename_i c1 hc1 c2 hc2 c3 hc3 c4 hc4 c5 hc5
        have u1 := same_of (Same.refl H15) hc1 (o := .tup [.int 0, .int 1])
        have u2 := same_of u1 hc2 (o := .tup [.int 1, .int 1])
        have u3 := same_of u2 hc3 (o := .tup [.int (1 + r6), .ref c2])
        have u4 := same_of u3 hc4 (o := .tup [.ref c3])
        have u5 := same_of u4 hc5 (o := .tup [.ref c1, .ref c4])
        have z1 := (Rt.new (K := K) (H0 := H15) (t := c1) (a := (0, 1))).tu (.ofS (same_of (same_of (same_of (Same.refl _) hc2 (o := .tup [.int 1, .int 1])) hc3 (o := .tup [.int (1 + r6), .ref c2])) hc4 (o := .tup [.ref c3])))
        refine use_is (m15.tu (.ofS u5)) (b_fm z1 (.inl (.inl upd_same)) (.cons ⟨c3, c2, rfl, .inl (.inl (upd_of hc4 upd_same)), (Rt.new (K := K) (a := (1, 1))).tu (.ofS (same_of (same_of (Same.refl _) hc3) hc4))⟩ .nil) hc5) ?_
        walk_at "w"
        have ss : Same H (upd (upd (upd (upd (upd H15 c1 (.tup [.int 0, .int 1])) c2 (.tup [.int 1, .int 1])) c3 (.tup [.int (1 + r6), .ref c2])) c4 (.tup [.ref c3])) c5 (.tup [.ref c1, .ref c4])) := ((((sm.trans s6).trans s7).trans s8).trans s13).trans ((s14.trans s15).trans u5)
        first | exact ⟨_, _, _, _, _, _, _, _, rfl, ss, by omega⟩ | exact ⟨ss, by omega⟩
    · rintro σ H' ⟨x1, x2, x3, x4, x5, x6, x7, x8, rfl, sm, _⟩
      walk_at "w"
      exact h _
end
end L

namespace X0
end X0
namespace L
open PySem PySem.Spec PyProof.Rows L2 Z X0
theorem all_mk {l : PySem.W.OpenLaw} {w : World} {K : PySem.W.Frag} {h : Heap} {mg : Str → Option Value} {fa : Addr} (X : K.In h) (G : h.Ns mainGlobals mg) (hfa : mg "law" = some (.ref fa))
    {f_ratio : Addr} {od_ratio an_ratio : Option Addr} {sl_ratio : Array (Option Value)} {oc_ratio kV_ratio dc_ratio pm_ratio cd_ratio ct_ratio  : Value}
    {T_ratio : Addr} {cT_ratio : Value} {dT_ratio : Option Addr} {lT_ratio : Array (Option Value)} {nT_ratio : Nat} {u_tok : Tok}
    {f_plus : Addr} {od_plus an_plus : Option Addr} {sl_plus : Array (Option Value)} {oc_plus kV_plus dc_plus pm_plus cd_plus ct_plus  : Value}
    {f_times : Addr} {od_times an_times : Option Addr} {sl_times : Array (Option Value)} {oc_times kV_times dc_times pm_times cd_times ct_times  : Value}
    {f_constant_form : Addr} {od_constant_form an_constant_form : Option Addr} {sl_constant_form : Array (Option Value)} {oc_constant_form kV_constant_form dc_constant_form pm_constant_form cd_constant_form ct_constant_form  : Value}
    {f_base_form : Addr} {od_base_form an_base_form : Option Addr} {sl_base_form : Array (Option Value)} {oc_base_form kV_base_form dc_base_form pm_base_form cd_base_form ct_base_form  : Value}
    {f_form_plus : Addr} {od_form_plus an_form_plus : Option Addr} {sl_form_plus : Array (Option Value)} {oc_form_plus kV_form_plus dc_form_plus pm_form_plus cd_form_plus ct_form_plus  : Value}
    {f_form_times : Addr} {od_form_times an_form_times : Option Addr} {sl_form_times : Array (Option Value)} {oc_form_times kV_form_times dc_form_times pm_form_times cd_form_times ct_form_times  : Value}
    {f_form_value : Addr} {od_form_value an_form_value : Option Addr} {sl_form_value : Array (Option Value)} {oc_form_value kV_form_value dc_form_value pm_form_value cd_form_value ct_form_value  : Value}
    {f_pool : Addr} {od_pool an_pool : Option Addr} {sl_pool : Array (Option Value)} {oc_pool kV_pool dc_pool pm_pool cd_pool ct_pool  : Value}
    {f_take : Addr} {od_take an_take : Option Addr} {sl_take : Array (Option Value)} {oc_take kV_take dc_take pm_take cd_take ct_take  : Value}
    {f_whole : Addr} {od_whole an_whole : Option Addr} {sl_whole : Array (Option Value)} {oc_whole kV_whole dc_whole pm_whole cd_whole ct_whole  : Value}
    {f_sized : Addr} {od_sized an_sized : Option Addr} {sl_sized : Array (Option Value)} {oc_sized kV_sized dc_sized pm_sized cd_sized ct_sized  : Value}
    {f_lowest : Addr} {od_lowest an_lowest : Option Addr} {sl_lowest : Array (Option Value)} {oc_lowest kV_lowest dc_lowest pm_lowest cd_lowest ct_lowest  : Value}
    {f_add : Addr} {od_add an_add : Option Addr} {sl_add : Array (Option Value)} {oc_add kV_add dc_add pm_add cd_add ct_add  : Value}
    {f_mul : Addr} {od_mul an_mul : Option Addr} {sl_mul : Array (Option Value)} {oc_mul kV_mul dc_mul pm_mul cd_mul ct_mul  : Value}
    {f_Lratio : Addr} {od_Lratio an_Lratio : Option Addr} {sl_Lratio : Array (Option Value)} {oc_Lratio kV_Lratio dc_Lratio pm_Lratio cd_Lratio ct_Lratio  : Value}
    {f_factor : Addr} {od_factor an_factor : Option Addr} {sl_factor : Array (Option Value)} {oc_factor kV_factor dc_factor pm_factor cd_factor ct_factor  : Value}
    {f_formed : Addr} {od_formed an_formed : Option Addr} {sl_formed : Array (Option Value)} {oc_formed kV_formed dc_formed pm_formed cd_formed ct_formed  : Value}
    {f_first : Addr} {od_first an_first : Option Addr} {sl_first : Array (Option Value)} {oc_first kV_first dc_first pm_first cd_first ct_first  : Value}
    {f_second : Addr} {od_second an_second : Option Addr} {sl_second : Array (Option Value)} {oc_second kV_second dc_second pm_second cd_second ct_second  : Value}
    {f_some : Addr} {od_some an_some : Option Addr} {sl_some : Array (Option Value)} {oc_some kV_some dc_some pm_some cd_some ct_some  : Value}
    {f_values : Addr} {od_values an_values : Option Addr} {sl_values : Array (Option Value)} {oc_values kV_values dc_values pm_values cd_values ct_values  : Value}
    {f_summed : Addr} {od_summed an_summed : Option Addr} {sl_summed : Array (Option Value)} {oc_summed kV_summed dc_summed pm_summed cd_summed ct_summed  : Value}
    {f_multiple : Addr} {od_multiple an_multiple : Option Addr} {sl_multiple : Array (Option Value)} {oc_multiple kV_multiple dc_multiple pm_multiple cd_multiple ct_multiple  : Value}
    {f_worth : Addr} {od_worth an_worth : Option Addr} {sl_worth : Array (Option Value)} {oc_worth kV_worth dc_worth pm_worth cd_worth ct_worth  : Value}
    {f_pair : Addr} {od_pair an_pair : Option Addr} {sl_pair : Array (Option Value)} {oc_pair kV_pair dc_pair pm_pair cd_pair ct_pair  : Value}
    {f_is : Addr} {od_is an_is : Option Addr} {sl_is : Array (Option Value)} {oc_is kV_is dc_is pm_is cd_is ct_is  : Value}
    {f_valued : Addr} {od_valued an_valued : Option Addr} {sl_valued : Array (Option Value)} {oc_valued kV_valued dc_valued pm_valued cd_valued ct_valued  : Value}
    {f_all : Addr} {od_all an_all : Option Addr} {sl_all : Array (Option Value)} {oc_all kV_all dc_all pm_all cd_all ct_all  : Value}
    {f_law : Addr} {od_law an_law : Option Addr} {sl_law : Array (Option Value)} {oc_law kV_law dc_law pm_law cd_law ct_law  : Value}
    {A_ZERO : Addr} {dd_ZERO : Option Addr} {ta_ZERO tb_ZERO : Tok} {nn_ZERO : Nat} {sl_ZERO : Array (Option Value)}
    {A_ONE : Addr} {dd_ONE : Option Addr} {ta_ONE tb_ONE : Tok} {nn_ONE : Nat} {sl_ONE : Array (Option Value)}
    (a_ratio : PySem.W.nsIn K mainGlobals "ratio" = some (some (.ref f_ratio)))
    (l_ratio : K.lookup f_ratio = some ⟨oc_ratio, od_ratio, .func (PySem.W.fnOf "ratio" "ratio" (defArgs s_ratio) (defBody s_ratio) (defScope s_ratio) (.ref T_ratio) kV_ratio dc_ratio pm_ratio an_ratio cd_ratio ct_ratio), sl_ratio⟩)
    (c_ratio : PySem.W.codeIn K cd_ratio "ratio" = true)
    (k_ratio : PySem.W.keepIn K (.ref f_ratio) = true)
    (t_ratio : K.lookup T_ratio = some ⟨cT_ratio, dT_ratio, .seq #[.int 1 u_tok] nT_ratio, lT_ratio⟩)
    (a_plus : PySem.W.nsIn K mainGlobals "plus" = some (some (.ref f_plus)))
    (l_plus : K.lookup f_plus = some ⟨oc_plus, od_plus, .func (PySem.W.fnOf "plus" "plus" (defArgs s_plus) (defBody s_plus) (defScope s_plus) .none kV_plus dc_plus pm_plus an_plus cd_plus ct_plus), sl_plus⟩)
    (c_plus : PySem.W.codeIn K cd_plus "plus" = true)
    (k_plus : PySem.W.keepIn K (.ref f_plus) = true)
    (a_times : PySem.W.nsIn K mainGlobals "times" = some (some (.ref f_times)))
    (l_times : K.lookup f_times = some ⟨oc_times, od_times, .func (PySem.W.fnOf "times" "times" (defArgs s_times) (defBody s_times) (defScope s_times) .none kV_times dc_times pm_times an_times cd_times ct_times), sl_times⟩)
    (c_times : PySem.W.codeIn K cd_times "times" = true)
    (k_times : PySem.W.keepIn K (.ref f_times) = true)
    (a_constant_form : PySem.W.nsIn K mainGlobals "constant_form" = some (some (.ref f_constant_form)))
    (l_constant_form : K.lookup f_constant_form = some ⟨oc_constant_form, od_constant_form, .func (PySem.W.fnOf "constant_form" "constant_form" (defArgs s_constant_form) (defBody s_constant_form) (defScope s_constant_form) .none kV_constant_form dc_constant_form pm_constant_form an_constant_form cd_constant_form ct_constant_form), sl_constant_form⟩)
    (c_constant_form : PySem.W.codeIn K cd_constant_form "constant_form" = true)
    (k_constant_form : PySem.W.keepIn K (.ref f_constant_form) = true)
    (a_base_form : PySem.W.nsIn K mainGlobals "base_form" = some (some (.ref f_base_form)))
    (l_base_form : K.lookup f_base_form = some ⟨oc_base_form, od_base_form, .func (PySem.W.fnOf "base_form" "base_form" (defArgs s_base_form) (defBody s_base_form) (defScope s_base_form) .none kV_base_form dc_base_form pm_base_form an_base_form cd_base_form ct_base_form), sl_base_form⟩)
    (c_base_form : PySem.W.codeIn K cd_base_form "base_form" = true)
    (k_base_form : PySem.W.keepIn K (.ref f_base_form) = true)
    (a_form_plus : PySem.W.nsIn K mainGlobals "form_plus" = some (some (.ref f_form_plus)))
    (l_form_plus : K.lookup f_form_plus = some ⟨oc_form_plus, od_form_plus, .func (PySem.W.fnOf "form_plus" "form_plus" (defArgs s_form_plus) (defBody s_form_plus) (defScope s_form_plus) .none kV_form_plus dc_form_plus pm_form_plus an_form_plus cd_form_plus ct_form_plus), sl_form_plus⟩)
    (c_form_plus : PySem.W.codeIn K cd_form_plus "form_plus" = true)
    (k_form_plus : PySem.W.keepIn K (.ref f_form_plus) = true)
    (a_form_times : PySem.W.nsIn K mainGlobals "form_times" = some (some (.ref f_form_times)))
    (l_form_times : K.lookup f_form_times = some ⟨oc_form_times, od_form_times, .func (PySem.W.fnOf "form_times" "form_times" (defArgs s_form_times) (defBody s_form_times) (defScope s_form_times) .none kV_form_times dc_form_times pm_form_times an_form_times cd_form_times ct_form_times), sl_form_times⟩)
    (c_form_times : PySem.W.codeIn K cd_form_times "form_times" = true)
    (k_form_times : PySem.W.keepIn K (.ref f_form_times) = true)
    (a_form_value : PySem.W.nsIn K mainGlobals "form_value" = some (some (.ref f_form_value)))
    (l_form_value : K.lookup f_form_value = some ⟨oc_form_value, od_form_value, .func (PySem.W.fnOf "form_value" "form_value" (defArgs s_form_value) (defBody s_form_value) (defScope s_form_value) .none kV_form_value dc_form_value pm_form_value an_form_value cd_form_value ct_form_value), sl_form_value⟩)
    (c_form_value : PySem.W.codeIn K cd_form_value "form_value" = true)
    (k_form_value : PySem.W.keepIn K (.ref f_form_value) = true)
    (a_pool : PySem.W.nsIn K mainGlobals "_law_pool" = some (some (.ref f_pool)))
    (l_pool : K.lookup f_pool = some ⟨oc_pool, od_pool, .func (PySem.W.fnOf "_law_pool" "_law_pool" (defArgs s_pool) (defBody s_pool) (defScope s_pool) .none kV_pool dc_pool pm_pool an_pool cd_pool ct_pool), sl_pool⟩)
    (c_pool : PySem.W.codeIn K cd_pool "_law_pool" = true)
    (k_pool : PySem.W.keepIn K (.ref f_pool) = true)
    (a_take : PySem.W.nsIn K mainGlobals "_law_take" = some (some (.ref f_take)))
    (l_take : K.lookup f_take = some ⟨oc_take, od_take, .func (PySem.W.fnOf "_law_take" "_law_take" (defArgs s_take) (defBody s_take) (defScope s_take) .none kV_take dc_take pm_take an_take cd_take ct_take), sl_take⟩)
    (c_take : PySem.W.codeIn K cd_take "_law_take" = true)
    (k_take : PySem.W.keepIn K (.ref f_take) = true)
    (a_whole : PySem.W.nsIn K mainGlobals "_law_whole" = some (some (.ref f_whole)))
    (l_whole : K.lookup f_whole = some ⟨oc_whole, od_whole, .func (PySem.W.fnOf "_law_whole" "_law_whole" (defArgs s_whole) (defBody s_whole) (defScope s_whole) .none kV_whole dc_whole pm_whole an_whole cd_whole ct_whole), sl_whole⟩)
    (c_whole : PySem.W.codeIn K cd_whole "_law_whole" = true)
    (k_whole : PySem.W.keepIn K (.ref f_whole) = true)
    (a_sized : PySem.W.nsIn K mainGlobals "_law_sized" = some (some (.ref f_sized)))
    (l_sized : K.lookup f_sized = some ⟨oc_sized, od_sized, .func (PySem.W.fnOf "_law_sized" "_law_sized" (defArgs s_sized) (defBody s_sized) (defScope s_sized) .none kV_sized dc_sized pm_sized an_sized cd_sized ct_sized), sl_sized⟩)
    (c_sized : PySem.W.codeIn K cd_sized "_law_sized" = true)
    (k_sized : PySem.W.keepIn K (.ref f_sized) = true)
    (a_lowest : PySem.W.nsIn K mainGlobals "_law_lowest" = some (some (.ref f_lowest)))
    (l_lowest : K.lookup f_lowest = some ⟨oc_lowest, od_lowest, .func (PySem.W.fnOf "_law_lowest" "_law_lowest" (defArgs s_lowest) (defBody s_lowest) (defScope s_lowest) .none kV_lowest dc_lowest pm_lowest an_lowest cd_lowest ct_lowest), sl_lowest⟩)
    (c_lowest : PySem.W.codeIn K cd_lowest "_law_lowest" = true)
    (k_lowest : PySem.W.keepIn K (.ref f_lowest) = true)
    (a_add : PySem.W.nsIn K mainGlobals "_law_add" = some (some (.ref f_add)))
    (l_add : K.lookup f_add = some ⟨oc_add, od_add, .func (PySem.W.fnOf "_law_add" "_law_add" (defArgs s_add) (defBody s_add) (defScope s_add) .none kV_add dc_add pm_add an_add cd_add ct_add), sl_add⟩)
    (c_add : PySem.W.codeIn K cd_add "_law_add" = true)
    (k_add : PySem.W.keepIn K (.ref f_add) = true)
    (a_mul : PySem.W.nsIn K mainGlobals "_law_mul" = some (some (.ref f_mul)))
    (l_mul : K.lookup f_mul = some ⟨oc_mul, od_mul, .func (PySem.W.fnOf "_law_mul" "_law_mul" (defArgs s_mul) (defBody s_mul) (defScope s_mul) .none kV_mul dc_mul pm_mul an_mul cd_mul ct_mul), sl_mul⟩)
    (c_mul : PySem.W.codeIn K cd_mul "_law_mul" = true)
    (k_mul : PySem.W.keepIn K (.ref f_mul) = true)
    (a_Lratio : PySem.W.nsIn K mainGlobals "_law_ratio" = some (some (.ref f_Lratio)))
    (l_Lratio : K.lookup f_Lratio = some ⟨oc_Lratio, od_Lratio, .func (PySem.W.fnOf "_law_ratio" "_law_ratio" (defArgs s_Lratio) (defBody s_Lratio) (defScope s_Lratio) .none kV_Lratio dc_Lratio pm_Lratio an_Lratio cd_Lratio ct_Lratio), sl_Lratio⟩)
    (c_Lratio : PySem.W.codeIn K cd_Lratio "_law_ratio" = true)
    (k_Lratio : PySem.W.keepIn K (.ref f_Lratio) = true)
    (a_factor : PySem.W.nsIn K mainGlobals "_law_factor" = some (some (.ref f_factor)))
    (l_factor : K.lookup f_factor = some ⟨oc_factor, od_factor, .func (PySem.W.fnOf "_law_factor" "_law_factor" (defArgs s_factor) (defBody s_factor) (defScope s_factor) .none kV_factor dc_factor pm_factor an_factor cd_factor ct_factor), sl_factor⟩)
    (c_factor : PySem.W.codeIn K cd_factor "_law_factor" = true)
    (k_factor : PySem.W.keepIn K (.ref f_factor) = true)
    (a_formed : PySem.W.nsIn K mainGlobals "_law_formed" = some (some (.ref f_formed)))
    (l_formed : K.lookup f_formed = some ⟨oc_formed, od_formed, .func (PySem.W.fnOf "_law_formed" "_law_formed" (defArgs s_formed) (defBody s_formed) (defScope s_formed) .none kV_formed dc_formed pm_formed an_formed cd_formed ct_formed), sl_formed⟩)
    (c_formed : PySem.W.codeIn K cd_formed "_law_formed" = true)
    (k_formed : PySem.W.keepIn K (.ref f_formed) = true)
    (a_first : PySem.W.nsIn K mainGlobals "_law_first" = some (some (.ref f_first)))
    (l_first : K.lookup f_first = some ⟨oc_first, od_first, .func (PySem.W.fnOf "_law_first" "_law_first" (defArgs s_first) (defBody s_first) (defScope s_first) .none kV_first dc_first pm_first an_first cd_first ct_first), sl_first⟩)
    (c_first : PySem.W.codeIn K cd_first "_law_first" = true)
    (k_first : PySem.W.keepIn K (.ref f_first) = true)
    (a_second : PySem.W.nsIn K mainGlobals "_law_second" = some (some (.ref f_second)))
    (l_second : K.lookup f_second = some ⟨oc_second, od_second, .func (PySem.W.fnOf "_law_second" "_law_second" (defArgs s_second) (defBody s_second) (defScope s_second) .none kV_second dc_second pm_second an_second cd_second ct_second), sl_second⟩)
    (c_second : PySem.W.codeIn K cd_second "_law_second" = true)
    (k_second : PySem.W.keepIn K (.ref f_second) = true)
    (a_some : PySem.W.nsIn K mainGlobals "_law_some" = some (some (.ref f_some)))
    (l_some : K.lookup f_some = some ⟨oc_some, od_some, .func (PySem.W.fnOf "_law_some" "_law_some" (defArgs s_some) (defBody s_some) (defScope s_some) .none kV_some dc_some pm_some an_some cd_some ct_some), sl_some⟩)
    (c_some : PySem.W.codeIn K cd_some "_law_some" = true)
    (k_some : PySem.W.keepIn K (.ref f_some) = true)
    (a_values : PySem.W.nsIn K mainGlobals "_law_values" = some (some (.ref f_values)))
    (l_values : K.lookup f_values = some ⟨oc_values, od_values, .func (PySem.W.fnOf "_law_values" "_law_values" (defArgs s_values) (defBody s_values) (defScope s_values) .none kV_values dc_values pm_values an_values cd_values ct_values), sl_values⟩)
    (c_values : PySem.W.codeIn K cd_values "_law_values" = true)
    (k_values : PySem.W.keepIn K (.ref f_values) = true)
    (a_summed : PySem.W.nsIn K mainGlobals "_law_summed" = some (some (.ref f_summed)))
    (l_summed : K.lookup f_summed = some ⟨oc_summed, od_summed, .func (PySem.W.fnOf "_law_summed" "_law_summed" (defArgs s_summed) (defBody s_summed) (defScope s_summed) .none kV_summed dc_summed pm_summed an_summed cd_summed ct_summed), sl_summed⟩)
    (c_summed : PySem.W.codeIn K cd_summed "_law_summed" = true)
    (k_summed : PySem.W.keepIn K (.ref f_summed) = true)
    (a_multiple : PySem.W.nsIn K mainGlobals "_law_multiple" = some (some (.ref f_multiple)))
    (l_multiple : K.lookup f_multiple = some ⟨oc_multiple, od_multiple, .func (PySem.W.fnOf "_law_multiple" "_law_multiple" (defArgs s_multiple) (defBody s_multiple) (defScope s_multiple) .none kV_multiple dc_multiple pm_multiple an_multiple cd_multiple ct_multiple), sl_multiple⟩)
    (c_multiple : PySem.W.codeIn K cd_multiple "_law_multiple" = true)
    (k_multiple : PySem.W.keepIn K (.ref f_multiple) = true)
    (a_worth : PySem.W.nsIn K mainGlobals "_law_worth" = some (some (.ref f_worth)))
    (l_worth : K.lookup f_worth = some ⟨oc_worth, od_worth, .func (PySem.W.fnOf "_law_worth" "_law_worth" (defArgs s_worth) (defBody s_worth) (defScope s_worth) .none kV_worth dc_worth pm_worth an_worth cd_worth ct_worth), sl_worth⟩)
    (c_worth : PySem.W.codeIn K cd_worth "_law_worth" = true)
    (k_worth : PySem.W.keepIn K (.ref f_worth) = true)
    (a_pair : PySem.W.nsIn K mainGlobals "_law_pair" = some (some (.ref f_pair)))
    (l_pair : K.lookup f_pair = some ⟨oc_pair, od_pair, .func (PySem.W.fnOf "_law_pair" "_law_pair" (defArgs s_pair) (defBody s_pair) (defScope s_pair) .none kV_pair dc_pair pm_pair an_pair cd_pair ct_pair), sl_pair⟩)
    (c_pair : PySem.W.codeIn K cd_pair "_law_pair" = true)
    (k_pair : PySem.W.keepIn K (.ref f_pair) = true)
    (a_is : PySem.W.nsIn K mainGlobals "_law_is" = some (some (.ref f_is)))
    (l_is : K.lookup f_is = some ⟨oc_is, od_is, .func (PySem.W.fnOf "_law_is" "_law_is" (defArgs s_is) (defBody s_is) (defScope s_is) .none kV_is dc_is pm_is an_is cd_is ct_is), sl_is⟩)
    (c_is : PySem.W.codeIn K cd_is "_law_is" = true)
    (k_is : PySem.W.keepIn K (.ref f_is) = true)
    (a_valued : PySem.W.nsIn K mainGlobals "_law_valued" = some (some (.ref f_valued)))
    (l_valued : K.lookup f_valued = some ⟨oc_valued, od_valued, .func (PySem.W.fnOf "_law_valued" "_law_valued" (defArgs s_valued) (defBody s_valued) (defScope s_valued) .none kV_valued dc_valued pm_valued an_valued cd_valued ct_valued), sl_valued⟩)
    (c_valued : PySem.W.codeIn K cd_valued "_law_valued" = true)
    (k_valued : PySem.W.keepIn K (.ref f_valued) = true)
    (a_all : PySem.W.nsIn K mainGlobals "_law_all" = some (some (.ref f_all)))
    (l_all : K.lookup f_all = some ⟨oc_all, od_all, .func (PySem.W.fnOf "_law_all" "_law_all" (defArgs s_all) (defBody s_all) (defScope s_all) .none kV_all dc_all pm_all an_all cd_all ct_all), sl_all⟩)
    (c_all : PySem.W.codeIn K cd_all "_law_all" = true)
    (k_all : PySem.W.keepIn K (.ref f_all) = true)
    (a_law : PySem.W.nsIn K mainGlobals "law" = some (some (.ref f_law)))
    (l_law : K.lookup f_law = some ⟨oc_law, od_law, .func (PySem.W.fnOf "law" "law" (defArgs s_law) (defBody s_law) (defScope s_law) .none kV_law dc_law pm_law an_law cd_law ct_law), sl_law⟩)
    (c_law : PySem.W.codeIn K cd_law "law" = true)
    (k_law : PySem.W.keepIn K (.ref f_law) = true)
    (m_len : PySem.W.nsIn K mainGlobals "len" = some none)
    (m_int : PySem.W.nsIn K mainGlobals "int" = some none)
    (m_abs : PySem.W.nsIn K mainGlobals "abs" = some none)
    (m_min : PySem.W.nsIn K mainGlobals "min" = some none)
    (m_max : PySem.W.nsIn K mainGlobals "max" = some none)
    (m_isinstance : PySem.W.nsIn K mainGlobals "isinstance" = some none)
    (m_range : PySem.W.nsIn K mainGlobals "range" = some none)
    (m_bool : PySem.W.nsIn K mainGlobals "bool" = some none)
    (m_list : PySem.W.nsIn K mainGlobals "list" = some none)
    (m_tuple : PySem.W.nsIn K mainGlobals "tuple" = some none)
    (m_sorted : PySem.W.nsIn K mainGlobals "sorted" = some none)
    (m_dict : PySem.W.nsIn K mainGlobals "dict" = some none)
    (nz_ZERO : PySem.W.nsIn K mainGlobals "ZERO" = some (some (.ref A_ZERO)))
    (zl_ZERO : K.lookup A_ZERO = some ⟨.type "tuple", dd_ZERO, .seq #[.int 0 ta_ZERO, .int 1 tb_ZERO] nn_ZERO, sl_ZERO⟩)
    (nz_ONE : PySem.W.nsIn K mainGlobals "ONE" = some (some (.ref A_ONE)))
    (zl_ONE : K.lookup A_ONE = some ⟨.type "tuple", dd_ONE, .seq #[.int 1 ta_ONE, .int 1 tb_ONE] nn_ONE, sl_ONE⟩)
    (mgcd : PySem.W.nsIn K mainGlobals "gcd" = some (some (.builtin "math.gcd"))) :
    ∃ fd : FuncData, (∀ (s : Shared) (v : Value), BindsTo s fd ⟨[v], []⟩ [("_law_script", v)]) ∧ ∀ base : Heap, K.In base → base.Ns mainGlobals mg → FnOk l.prog w K mg base CX0 6 fa fd ["_law_script"] (spLaw K) := by
  have e := hfa.symm.trans (PySem.W.mg_of X G a_law)
  have e2 : f_law = fa := by
    cases e
    rfl
  subst e2
  let T : Txt K mg := {
    f_ratio := f_ratio, fd_ratio := (PySem.W.fnOf "ratio" "ratio" (defArgs s_ratio) (defBody s_ratio) (defScope s_ratio) (.ref T_ratio) kV_ratio dc_ratio pm_ratio an_ratio cd_ratio ct_ratio), F_ratio := ⟨⟨_, _, _, _, _, _, _, _, _, _, rfl, l_ratio, c_ratio, .inr ⟨by decide, T_ratio, _, _, nT_ratio, rfl, t_ratio, rfl, (.cons ⟨_, rfl⟩ .nil : Vals [.int 1] [.int 1 u_tok])⟩, .inl rfl⟩, k_ratio⟩, g_ratio := PySem.W.mg_of X G a_ratio,
    f_plus := f_plus, fd_plus := _, F_plus := fun_mk (st := s_plus) l_plus c_plus k_plus, b_plus := (fun_mk (st := s_plus) l_plus c_plus k_plus).binds (ps := ["a", "b"]) fun _ _ _ _ _ _ us hl => match us, hl with | [_, _], _ => rfl, g_plus := PySem.W.mg_of X G a_plus,
    f_times := f_times, fd_times := _, F_times := fun_mk (st := s_times) l_times c_times k_times, b_times := (fun_mk (st := s_times) l_times c_times k_times).binds (ps := ["a", "b"]) fun _ _ _ _ _ _ us hl => match us, hl with | [_, _], _ => rfl, g_times := PySem.W.mg_of X G a_times,
    f_constant_form := f_constant_form, fd_constant_form := _, F_constant_form := fun_mk (st := s_constant_form) l_constant_form c_constant_form k_constant_form, b_constant_form := (fun_mk (st := s_constant_form) l_constant_form c_constant_form k_constant_form).binds (ps := ["a"]) fun _ _ _ _ _ _ us hl => match us, hl with | [_], _ => rfl, g_constant_form := PySem.W.mg_of X G a_constant_form,
    f_base_form := f_base_form, fd_base_form := _, F_base_form := fun_mk (st := s_base_form) l_base_form c_base_form k_base_form, b_base_form := (fun_mk (st := s_base_form) l_base_form c_base_form k_base_form).binds (ps := ["node"]) fun _ _ _ _ _ _ us hl => match us, hl with | [_], _ => rfl, g_base_form := PySem.W.mg_of X G a_base_form,
    f_form_plus := f_form_plus, fd_form_plus := _, F_form_plus := fun_mk (st := s_form_plus) l_form_plus c_form_plus k_form_plus, b_form_plus := (fun_mk (st := s_form_plus) l_form_plus c_form_plus k_form_plus).binds (ps := ["f", "g"]) fun _ _ _ _ _ _ us hl => match us, hl with | [_, _], _ => rfl, g_form_plus := PySem.W.mg_of X G a_form_plus,
    f_form_times := f_form_times, fd_form_times := _, F_form_times := fun_mk (st := s_form_times) l_form_times c_form_times k_form_times, b_form_times := (fun_mk (st := s_form_times) l_form_times c_form_times k_form_times).binds (ps := ["a", "f"]) fun _ _ _ _ _ _ us hl => match us, hl with | [_, _], _ => rfl, g_form_times := PySem.W.mg_of X G a_form_times,
    f_form_value := f_form_value, fd_form_value := _, F_form_value := fun_mk (st := s_form_value) l_form_value c_form_value k_form_value, b_form_value := (fun_mk (st := s_form_value) l_form_value c_form_value k_form_value).binds (ps := ["f", "values"]) fun _ _ _ _ _ _ us hl => match us, hl with | [_, _], _ => rfl, g_form_value := PySem.W.mg_of X G a_form_value,
    f_pool := f_pool, fd_pool := _, F_pool := fun_mk (st := s_pool) l_pool c_pool k_pool, b_pool := (fun_mk (st := s_pool) l_pool c_pool k_pool).binds (ps := ["_law_script", "_law_k"]) fun _ _ _ _ _ _ us hl => match us, hl with | [_, _], _ => rfl, g_pool := PySem.W.mg_of X G a_pool,
    f_take := f_take, fd_take := _, F_take := fun_mk (st := s_take) l_take c_take k_take, b_take := (fun_mk (st := s_take) l_take c_take k_take).binds (ps := ["_law_pool_here", "_law_size"]) fun _ _ _ _ _ _ us hl => match us, hl with | [_, _], _ => rfl, g_take := PySem.W.mg_of X G a_take,
    f_whole := f_whole, fd_whole := _, F_whole := fun_mk (st := s_whole) l_whole c_whole k_whole, b_whole := (fun_mk (st := s_whole) l_whole c_whole k_whole).binds (ps := ["_law_value"]) fun _ _ _ _ _ _ us hl => match us, hl with | [_], _ => rfl, g_whole := PySem.W.mg_of X G a_whole,
    f_sized := f_sized, fd_sized := _, F_sized := fun_mk (st := s_sized) l_sized c_sized k_sized, b_sized := (fun_mk (st := s_sized) l_sized c_sized k_sized).binds (ps := ["_law_pool_here", "_law_pieces"]) fun _ _ _ _ _ _ us hl => match us, hl with | [_, _], _ => rfl, g_sized := PySem.W.mg_of X G a_sized,
    f_lowest := f_lowest, fd_lowest := _, F_lowest := fun_mk (st := s_lowest) l_lowest c_lowest k_lowest, b_lowest := (fun_mk (st := s_lowest) l_lowest c_lowest k_lowest).binds (ps := ["_law_p", "_law_q"]) fun _ _ _ _ _ _ us hl => match us, hl with | [_, _], _ => rfl, g_lowest := PySem.W.mg_of X G a_lowest,
    f_add := f_add, fd_add := _, F_add := fun_mk (st := s_add) l_add c_add k_add, b_add := (fun_mk (st := s_add) l_add c_add k_add).binds (ps := ["_law_a", "_law_b"]) fun _ _ _ _ _ _ us hl => match us, hl with | [_, _], _ => rfl, g_add := PySem.W.mg_of X G a_add,
    f_mul := f_mul, fd_mul := _, F_mul := fun_mk (st := s_mul) l_mul c_mul k_mul, b_mul := (fun_mk (st := s_mul) l_mul c_mul k_mul).binds (ps := ["_law_a", "_law_b"]) fun _ _ _ _ _ _ us hl => match us, hl with | [_, _], _ => rfl, g_mul := PySem.W.mg_of X G a_mul,
    f_Lratio := f_Lratio, fd_Lratio := _, F_Lratio := fun_mk (st := s_Lratio) l_Lratio c_Lratio k_Lratio, b_Lratio := (fun_mk (st := s_Lratio) l_Lratio c_Lratio k_Lratio).binds (ps := ["_law_pool_here", "_law_long"]) fun _ _ _ _ _ _ us hl => match us, hl with | [_, _], _ => rfl, g_Lratio := PySem.W.mg_of X G a_Lratio,
    f_factor := f_factor, fd_factor := _, F_factor := fun_mk (st := s_factor) l_factor c_factor k_factor, b_factor := (fun_mk (st := s_factor) l_factor c_factor k_factor).binds (ps := ["_law_pool_here", "_law_long"]) fun _ _ _ _ _ _ us hl => match us, hl with | [_, _], _ => rfl, g_factor := PySem.W.mg_of X G a_factor,
    f_formed := f_formed, fd_formed := _, F_formed := fun_mk (st := s_formed) l_formed c_formed k_formed, b_formed := (fun_mk (st := s_formed) l_formed c_formed k_formed).binds (ps := ["_law_constant", "_law_out"]) fun _ _ _ _ _ _ us hl => match us, hl with | [_, _], _ => rfl, g_formed := PySem.W.mg_of X G a_formed,
    f_first := f_first, fd_first := _, F_first := fun_mk (st := s_first) l_first c_first k_first, b_first := (fun_mk (st := s_first) l_first c_first k_first).binds (ps := ["_law_pool_here", "_law_long"]) fun _ _ _ _ _ _ us hl => match us, hl with | [_, _], _ => rfl, g_first := PySem.W.mg_of X G a_first,
    f_second := f_second, fd_second := _, F_second := fun_mk (st := s_second) l_second c_second k_second, b_second := (fun_mk (st := s_second) l_second c_second k_second).binds (ps := ["_law_pool_here", "_law_long", "_law_f"]) fun _ _ _ _ _ _ us hl => match us, hl with | [_, _, _], _ => rfl, g_second := PySem.W.mg_of X G a_second,
    f_some := f_some, fd_some := _, F_some := fun_mk (st := s_some) l_some c_some k_some, b_some := (fun_mk (st := s_some) l_some c_some k_some).binds (ps := ["_law_pool_here", "_law_long"]) fun _ _ _ _ _ _ us hl => match us, hl with | [_, _], _ => rfl, g_some := PySem.W.mg_of X G a_some,
    f_values := f_values, fd_values := _, F_values := fun_mk (st := s_values) l_values c_values k_values, b_values := (fun_mk (st := s_values) l_values c_values k_values).binds (ps := ["_law_pool_here", "_law_long", "_law_f", "_law_g"]) fun _ _ _ _ _ _ us hl => match us, hl with | [_, _, _, _], _ => rfl, g_values := PySem.W.mg_of X G a_values,
    f_summed := f_summed, fd_summed := _, F_summed := fun_mk (st := s_summed) l_summed c_summed k_summed, b_summed := (fun_mk (st := s_summed) l_summed c_summed k_summed).binds (ps := ["_law_f", "_law_g"]) fun _ _ _ _ _ _ us hl => match us, hl with | [_, _], _ => rfl, g_summed := PySem.W.mg_of X G a_summed,
    f_multiple := f_multiple, fd_multiple := _, F_multiple := fun_mk (st := s_multiple) l_multiple c_multiple k_multiple, b_multiple := (fun_mk (st := s_multiple) l_multiple c_multiple k_multiple).binds (ps := ["_law_a", "_law_f"]) fun _ _ _ _ _ _ us hl => match us, hl with | [_, _], _ => rfl, g_multiple := PySem.W.mg_of X G a_multiple,
    f_worth := f_worth, fd_worth := _, F_worth := fun_mk (st := s_worth) l_worth c_worth k_worth, b_worth := (fun_mk (st := s_worth) l_worth c_worth k_worth).binds (ps := ["_law_f", "_law_values_here"]) fun _ _ _ _ _ _ us hl => match us, hl with | [_, _], _ => rfl, g_worth := PySem.W.mg_of X G a_worth,
    f_pair := f_pair, fd_pair := _, F_pair := fun_mk (st := s_pair) l_pair c_pair k_pair, b_pair := (fun_mk (st := s_pair) l_pair c_pair k_pair).binds (ps := ["_law_told"]) fun _ _ _ _ _ _ us hl => match us, hl with | [_], _ => rfl, g_pair := PySem.W.mg_of X G a_pair,
    f_is := f_is, fd_is := _, F_is := fun_mk (st := s_is) l_is c_is k_is, b_is := (fun_mk (st := s_is) l_is c_is k_is).binds (ps := ["_law_told", "_law_due"]) fun _ _ _ _ _ _ us hl => match us, hl with | [_, _], _ => rfl, g_is := PySem.W.mg_of X G a_is,
    f_valued := f_valued, fd_valued := _, F_valued := fun_mk (st := s_valued) l_valued c_valued k_valued, b_valued := (fun_mk (st := s_valued) l_valued c_valued k_valued).binds (ps := ["_law_f", "_law_values_here", "_law_due"]) fun _ _ _ _ _ _ us hl => match us, hl with | [_, _, _], _ => rfl, g_valued := PySem.W.mg_of X G a_valued,
    f_all := f_all, fd_all := _, F_all := fun_mk (st := s_all) l_all c_all k_all, b_all := (fun_mk (st := s_all) l_all c_all k_all).binds (ps := ["_law_f", "_law_g", "_law_a", "_law_values_here"]) fun _ _ _ _ _ _ us hl => match us, hl with | [_, _, _, _], _ => rfl, g_all := PySem.W.mg_of X G a_all,
    f_law := f_law, fd_law := _, F_law := fun_mk (st := s_law) l_law c_law k_law, b_law := (fun_mk (st := s_law) l_law c_law k_law).binds (ps := ["_law_script"]) fun _ _ _ _ _ _ us hl => match us, hl with | [_], _ => rfl, g_law := PySem.W.mg_of X G a_law,
    m_len := PySem.W.mg_none_of X G m_len,
    m_int := PySem.W.mg_none_of X G m_int,
    m_abs := PySem.W.mg_none_of X G m_abs,
    m_min := PySem.W.mg_none_of X G m_min,
    m_max := PySem.W.mg_none_of X G m_max,
    m_isinstance := PySem.W.mg_none_of X G m_isinstance,
    m_range := PySem.W.mg_none_of X G m_range,
    m_bool := PySem.W.mg_none_of X G m_bool,
    m_list := PySem.W.mg_none_of X G m_list,
    m_tuple := PySem.W.mg_none_of X G m_tuple,
    m_sorted := PySem.W.mg_none_of X G m_sorted,
    m_dict := PySem.W.mg_none_of X G m_dict,
    A_ZERO := A_ZERO, g_ZERO := PySem.W.mg_of X G nz_ZERO,
    z_ZERO := fun H => .inr ⟨_, _, nn_ZERO, zl_ZERO, rfl, rfl, (by show 2 ≤ sizeLine; decide), (.cons ⟨_, rfl⟩ (.cons ⟨_, rfl⟩ .nil))⟩,
    A_ONE := A_ONE, g_ONE := PySem.W.mg_of X G nz_ONE,
    z_ONE := fun H => .inr ⟨_, _, nn_ONE, zl_ONE, rfl, rfl, (by show 2 ≤ sizeLine; decide), (.cons ⟨_, rfl⟩ (.cons ⟨_, rfl⟩ .nil))⟩,
    m_gcd := PySem.W.mg_of X G mgcd }
  exact ⟨PySem.W.fnOf "law" "law" (defArgs s_law) (defBody s_law) (defScope s_law) .none kV_law dc_law pm_law an_law cd_law ct_law, fun s v => .of_eq rfl, fun base _ _ => ok_law T⟩
end L

open PySem PySem.W PyProof.Rows
set_option maxHeartbeats 0 in
theorem PySem.Challenge.cw_papersat_k04_forms_add_up_holds : PySem.Challenge.rw_papersat_k04_forms_add_up.Holds := by
  w_on; o_law; k_head; (case hw => w_witness2)
  k_fill
  refine L2.walk_of (l := PySem.Challenge.rw_papersat_k04_forms_add_up) (n := 63) (k := 6) (x := "_law_script") (CX := fun _ => L2.CX0) (sp := fun w => L.spLaw _) rfl (by decide) rfl ⟨rfl, by decide, by decide⟩ (fun w h Y => PySem.W.kIn_of Y) ?F (fun _ _ a ns hl _ hS => ⟨a, ns, rfl, hS, hl, fun _ => rfl⟩) (fun _ _ _ _ _ h => h)
  case F =>
    intro w mg fa h KX G hmg
    refine' L.all_mk KX G hmg ?a_ratio ?l_ratio ?c_ratio ?k_ratio ?t_ratio ?a_plus ?l_plus ?c_plus ?k_plus ?a_times ?l_times ?c_times ?k_times ?a_constant_form ?l_constant_form ?c_constant_form ?k_constant_form ?a_base_form ?l_base_form ?c_base_form ?k_base_form ?a_form_plus ?l_form_plus ?c_form_plus ?k_form_plus ?a_form_times ?l_form_times ?c_form_times ?k_form_times ?a_form_value ?l_form_value ?c_form_value ?k_form_value ?a_pool ?l_pool ?c_pool ?k_pool ?a_take ?l_take ?c_take ?k_take ?a_whole ?l_whole ?c_whole ?k_whole ?a_sized ?l_sized ?c_sized ?k_sized ?a_lowest ?l_lowest ?c_lowest ?k_lowest ?a_add ?l_add ?c_add ?k_add ?a_mul ?l_mul ?c_mul ?k_mul ?a_Lratio ?l_Lratio ?c_Lratio ?k_Lratio ?a_factor ?l_factor ?c_factor ?k_factor ?a_formed ?l_formed ?c_formed ?k_formed ?a_first ?l_first ?c_first ?k_first ?a_second ?l_second ?c_second ?k_second ?a_some ?l_some ?c_some ?k_some ?a_values ?l_values ?c_values ?k_values ?a_summed ?l_summed ?c_summed ?k_summed ?a_multiple ?l_multiple ?c_multiple ?k_multiple ?a_worth ?l_worth ?c_worth ?k_worth ?a_pair ?l_pair ?c_pair ?k_pair ?a_is ?l_is ?c_is ?k_is ?a_valued ?l_valued ?c_valued ?k_valued ?a_all ?l_all ?c_all ?k_all ?a_law ?l_law ?c_law ?k_law ?m_len ?m_int ?m_abs ?m_min ?m_max ?m_isinstance ?m_range ?m_bool ?m_list ?m_tuple ?m_sorted ?m_dict ?nz_ZERO ?zl_ZERO ?nz_ONE ?zl_ONE ?mgcd
    (case a_ratio => first | k_is | k_exc | rfl | kernel_rfl); (case l_ratio => first | k_is | k_exc | rfl | kernel_rfl); (case c_ratio => first | k_is | k_exc | rfl | kernel_rfl); (case k_ratio => first | k_is | k_exc | rfl | kernel_rfl); (case t_ratio => first | k_is | k_exc | rfl | kernel_rfl); (case a_plus => first | k_is | k_exc | rfl | kernel_rfl); (case l_plus => first | k_is | k_exc | rfl | kernel_rfl); (case c_plus => first | k_is | k_exc | rfl | kernel_rfl); (case k_plus => first | k_is | k_exc | rfl | kernel_rfl); (case a_times => first | k_is | k_exc | rfl | kernel_rfl); (case l_times => first | k_is | k_exc | rfl | kernel_rfl); (case c_times => first | k_is | k_exc | rfl | kernel_rfl); (case k_times => first | k_is | k_exc | rfl | kernel_rfl); (case a_constant_form => first | k_is | k_exc | rfl | kernel_rfl); (case l_constant_form => first | k_is | k_exc | rfl | kernel_rfl); (case c_constant_form => first | k_is | k_exc | rfl | kernel_rfl); (case k_constant_form => first | k_is | k_exc | rfl | kernel_rfl); (case a_base_form => first | k_is | k_exc | rfl | kernel_rfl); (case l_base_form => first | k_is | k_exc | rfl | kernel_rfl); (case c_base_form => first | k_is | k_exc | rfl | kernel_rfl); (case k_base_form => first | k_is | k_exc | rfl | kernel_rfl); (case a_form_plus => first | k_is | k_exc | rfl | kernel_rfl); (case l_form_plus => first | k_is | k_exc | rfl | kernel_rfl); (case c_form_plus => first | k_is | k_exc | rfl | kernel_rfl); (case k_form_plus => first | k_is | k_exc | rfl | kernel_rfl); (case a_form_times => first | k_is | k_exc | rfl | kernel_rfl); (case l_form_times => first | k_is | k_exc | rfl | kernel_rfl); (case c_form_times => first | k_is | k_exc | rfl | kernel_rfl); (case k_form_times => first | k_is | k_exc | rfl | kernel_rfl); (case a_form_value => first | k_is | k_exc | rfl | kernel_rfl); (case l_form_value => first | k_is | k_exc | rfl | kernel_rfl); (case c_form_value => first | k_is | k_exc | rfl | kernel_rfl); (case k_form_value => first | k_is | k_exc | rfl | kernel_rfl); (case a_pool => first | k_is | k_exc | rfl | kernel_rfl); (case l_pool => first | k_is | k_exc | rfl | kernel_rfl); (case c_pool => first | k_is | k_exc | rfl | kernel_rfl); (case k_pool => first | k_is | k_exc | rfl | kernel_rfl); (case a_take => first | k_is | k_exc | rfl | kernel_rfl); (case l_take => first | k_is | k_exc | rfl | kernel_rfl); (case c_take => first | k_is | k_exc | rfl | kernel_rfl); (case k_take => first | k_is | k_exc | rfl | kernel_rfl); (case a_whole => first | k_is | k_exc | rfl | kernel_rfl); (case l_whole => first | k_is | k_exc | rfl | kernel_rfl); (case c_whole => first | k_is | k_exc | rfl | kernel_rfl); (case k_whole => first | k_is | k_exc | rfl | kernel_rfl); (case a_sized => first | k_is | k_exc | rfl | kernel_rfl); (case l_sized => first | k_is | k_exc | rfl | kernel_rfl); (case c_sized => first | k_is | k_exc | rfl | kernel_rfl); (case k_sized => first | k_is | k_exc | rfl | kernel_rfl); (case a_lowest => first | k_is | k_exc | rfl | kernel_rfl); (case l_lowest => first | k_is | k_exc | rfl | kernel_rfl); (case c_lowest => first | k_is | k_exc | rfl | kernel_rfl); (case k_lowest => first | k_is | k_exc | rfl | kernel_rfl); (case a_add => first | k_is | k_exc | rfl | kernel_rfl); (case l_add => first | k_is | k_exc | rfl | kernel_rfl); (case c_add => first | k_is | k_exc | rfl | kernel_rfl); (case k_add => first | k_is | k_exc | rfl | kernel_rfl); (case a_mul => first | k_is | k_exc | rfl | kernel_rfl); (case l_mul => first | k_is | k_exc | rfl | kernel_rfl); (case c_mul => first | k_is | k_exc | rfl | kernel_rfl); (case k_mul => first | k_is | k_exc | rfl | kernel_rfl); (case a_Lratio => first | k_is | k_exc | rfl | kernel_rfl); (case l_Lratio => first | k_is | k_exc | rfl | kernel_rfl); (case c_Lratio => first | k_is | k_exc | rfl | kernel_rfl); (case k_Lratio => first | k_is | k_exc | rfl | kernel_rfl); (case a_factor => first | k_is | k_exc | rfl | kernel_rfl); (case l_factor => first | k_is | k_exc | rfl | kernel_rfl); (case c_factor => first | k_is | k_exc | rfl | kernel_rfl); (case k_factor => first | k_is | k_exc | rfl | kernel_rfl); (case a_formed => first | k_is | k_exc | rfl | kernel_rfl); (case l_formed => first | k_is | k_exc | rfl | kernel_rfl); (case c_formed => first | k_is | k_exc | rfl | kernel_rfl); (case k_formed => first | k_is | k_exc | rfl | kernel_rfl); (case a_first => first | k_is | k_exc | rfl | kernel_rfl); (case l_first => first | k_is | k_exc | rfl | kernel_rfl); (case c_first => first | k_is | k_exc | rfl | kernel_rfl); (case k_first => first | k_is | k_exc | rfl | kernel_rfl); (case a_second => first | k_is | k_exc | rfl | kernel_rfl); (case l_second => first | k_is | k_exc | rfl | kernel_rfl); (case c_second => first | k_is | k_exc | rfl | kernel_rfl); (case k_second => first | k_is | k_exc | rfl | kernel_rfl); (case a_some => first | k_is | k_exc | rfl | kernel_rfl); (case l_some => first | k_is | k_exc | rfl | kernel_rfl); (case c_some => first | k_is | k_exc | rfl | kernel_rfl); (case k_some => first | k_is | k_exc | rfl | kernel_rfl); (case a_values => first | k_is | k_exc | rfl | kernel_rfl); (case l_values => first | k_is | k_exc | rfl | kernel_rfl); (case c_values => first | k_is | k_exc | rfl | kernel_rfl); (case k_values => first | k_is | k_exc | rfl | kernel_rfl); (case a_summed => first | k_is | k_exc | rfl | kernel_rfl); (case l_summed => first | k_is | k_exc | rfl | kernel_rfl); (case c_summed => first | k_is | k_exc | rfl | kernel_rfl); (case k_summed => first | k_is | k_exc | rfl | kernel_rfl); (case a_multiple => first | k_is | k_exc | rfl | kernel_rfl); (case l_multiple => first | k_is | k_exc | rfl | kernel_rfl); (case c_multiple => first | k_is | k_exc | rfl | kernel_rfl); (case k_multiple => first | k_is | k_exc | rfl | kernel_rfl); (case a_worth => first | k_is | k_exc | rfl | kernel_rfl); (case l_worth => first | k_is | k_exc | rfl | kernel_rfl); (case c_worth => first | k_is | k_exc | rfl | kernel_rfl); (case k_worth => first | k_is | k_exc | rfl | kernel_rfl); (case a_pair => first | k_is | k_exc | rfl | kernel_rfl); (case l_pair => first | k_is | k_exc | rfl | kernel_rfl); (case c_pair => first | k_is | k_exc | rfl | kernel_rfl); (case k_pair => first | k_is | k_exc | rfl | kernel_rfl); (case a_is => first | k_is | k_exc | rfl | kernel_rfl); (case l_is => first | k_is | k_exc | rfl | kernel_rfl); (case c_is => first | k_is | k_exc | rfl | kernel_rfl); (case k_is => first | k_is | k_exc | rfl | kernel_rfl); (case a_valued => first | k_is | k_exc | rfl | kernel_rfl); (case l_valued => first | k_is | k_exc | rfl | kernel_rfl); (case c_valued => first | k_is | k_exc | rfl | kernel_rfl); (case k_valued => first | k_is | k_exc | rfl | kernel_rfl); (case a_all => first | k_is | k_exc | rfl | kernel_rfl); (case l_all => first | k_is | k_exc | rfl | kernel_rfl); (case c_all => first | k_is | k_exc | rfl | kernel_rfl); (case k_all => first | k_is | k_exc | rfl | kernel_rfl); (case a_law => first | k_is | k_exc | rfl | kernel_rfl); (case l_law => first | k_is | k_exc | rfl | kernel_rfl); (case c_law => first | k_is | k_exc | rfl | kernel_rfl); (case k_law => first | k_is | k_exc | rfl | kernel_rfl); (case m_len => first | k_is | k_exc | rfl | kernel_rfl); (case m_int => first | k_is | k_exc | rfl | kernel_rfl); (case m_abs => first | k_is | k_exc | rfl | kernel_rfl); (case m_min => first | k_is | k_exc | rfl | kernel_rfl); (case m_max => first | k_is | k_exc | rfl | kernel_rfl); (case m_isinstance => first | k_is | k_exc | rfl | kernel_rfl); (case m_range => first | k_is | k_exc | rfl | kernel_rfl); (case m_bool => first | k_is | k_exc | rfl | kernel_rfl); (case m_list => first | k_is | k_exc | rfl | kernel_rfl); (case m_tuple => first | k_is | k_exc | rfl | kernel_rfl); (case m_sorted => first | k_is | k_exc | rfl | kernel_rfl); (case m_dict => first | k_is | k_exc | rfl | kernel_rfl); (case nz_ZERO => first | k_is | k_exc | rfl | kernel_rfl); (case zl_ZERO => first | k_is | k_exc | rfl | kernel_rfl); (case nz_ONE => first | k_is | k_exc | rfl | kernel_rfl); (case zl_ONE => first | k_is | k_exc | rfl | kernel_rfl); (case mgcd => first | k_is | k_exc | rfl | kernel_rfl)
#print axioms PySem.Challenge.cw_papersat_k04_forms_add_up_holds
