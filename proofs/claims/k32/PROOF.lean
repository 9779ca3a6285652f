import PyProof.Rows.All
import Wide.All
import OpenK.AllK
import Wide.FinOn
import HandS.ForMost
import HandS.ForExc
import HandS.IsInst
import HandS.Gcd
import HandS.Wide
import HandS.WideBits
import HandS.Defaults
import HandS.ExcIs
import HandS.Small
import HandS.Flow
import HandS.Evl
import HandS.DictEq
import HandS.Walk
import HandS.TupLe
import HandS.More
import HandS.ForDict
import HandS.TupAny
import KE.KDictPairs
import KE.KEqDict
import HandS.OwnIter
import HandS.IterNext
import HandS.DictComp
import HandS.RevRange
import PySem.Challenge.RW_papersat_k32_trimmed_lists
set_option Elab.async false
set_option linter.all false
set_option maxRecDepth 100000
set_option maxHeartbeats 4000000
/-! ### short words for readings -/
namespace Z
open PySem PySem.Spec PyProof.Rows L2
variable {σ σ' : L2.St} {H : Hp} {Q : VK} {D : Ends} {ta tb te : TE} {t u : TS} {tt tu : TT} {g : TG} {v x y : V} {i : Nat} {K : PySem.W.Frag} {p : Addr}
theorem w_var (h : σ[i]? = some (some v)) (q : Q v H) : tVar i σ H Q := ⟨v, h, q⟩
theorem w_c (q : Q v H) : tC v σ H Q := q
theorem w_op {r : R2} (h : ta σ H fun x H1 => tb σ H1 fun y H2 => r x y H2 Q) : tOp r ta tb σ H Q := h
theorem w_un {r : V → Hp → VK → Prop} (h : ta σ H fun x H1 => r x H1 Q) : tUn r ta σ H Q := h
theorem w_rI0 {f : Int → Int → V} {a b : Int} (q : Q (f a b) H) : rI0 f (.int a) (.int b) H Q := ⟨a, b, rfl, rfl, q⟩
theorem w_rI {C : Int → Int → Prop} {f : Int → Int → V} {a b : Int} (c : C a b) (q : Q (f a b) H) : rI C f (.int a) (.int b) H Q := ⟨a, b, rfl, rfl, c, q⟩
theorem w_rU {f : Int → V} {a : Int} (q : Q (f a) H) : rU f (.int a) H Q := ⟨a, rfl, q⟩
theorem w_rEq (c : scal x y = true) (q : Q (.bl (decide (x = y))) H) : rEq x y H Q := ⟨c, q⟩
theorem w_rNe (c : scal x y = true) (q : Q (.bl (!decide (x = y))) H) : rNe x y H Q := ⟨c, q⟩
theorem w_rEqI {a b : Int} (q : Q (.bl (decide (a = b))) H) : rEq (.int a) (.int b) H Q := ⟨rfl, by
  rw [show decide (V.int a = V.int b) = decide (a = b) by simp]; exact q⟩
theorem w_rNeI {a b : Int} (q : Q (.bl (!decide (a = b))) H) : rNe (.int a) (.int b) H Q := ⟨rfl, by
  rw [show decide (V.int a = V.int b) = decide (a = b) by simp]; exact q⟩
theorem w_ixL {xs : List V} {k : Int} (h : SqL K H p xs) (a : atI xs k = some v) (q : Q v H) : rIxL K (.ref p) (.int k) H Q := ⟨p, xs, k, v, rfl, rfl, h, a, q⟩
theorem w_ixT {xs : List V} {k : Int} (h : SqT K H p xs) (a : atI xs k = some v) (q : Q v H) : rIxT K (.ref p) (.int k) H Q := ⟨p, xs, k, v, rfl, rfl, h, a, q⟩
theorem w_start (e : σ = σ') (h : t D σ' H) : t D σ H := by rw [e]; exact h
theorem w_seq (h : t { D with nx := u D } σ H) : tSeq t u D σ H := h
theorem w_next (h : D.nx σ H) : tNext D σ H := h
theorem w_break (h : D.bk σ H) : tBreak D σ H := h
theorem w_cont (h : D.ct σ H) : tCont D σ H := h
theorem w_drop (h : te σ H fun _ H1 => D.nx σ H1) : tDrop te D σ H := h
theorem w_ret (h : te σ H D.rt) : tRet te D σ H := h
theorem w_asg (h : te σ H fun x H1 => g x σ H1 D.nx) : tAsg te g D σ H := h
theorem w_gname {R : L2.St → Hp → Prop} (e : σ.set i (some v) = σ') (h : R σ' H) : gName i v σ H R := by rw [← e] at h; exact h
theorem w_ifs (h : tt σ H fun b H1 => if b = true then t D σ H1 else u D σ H1) : tIfS tt t u D σ H := h
theorem w_test {R : Bool → Hp → Prop} (h : te σ H fun x H1 => ∃ k, x = .bl k ∧ R k H1) : tTest te σ H R := h
theorem w_B {R : Bool → Hp → Prop} (h : te σ H fun x H1 => ∃ k, x = .bl k ∧ R k H1) : tB te σ H R := h
theorem w_bl {k : Bool} {R : Bool → Prop} (h : R k) : ∃ c, V.bl k = V.bl c ∧ R c := ⟨k, rfl, h⟩
theorem w_tand {R : Bool → Hp → Prop} (h : tt σ H fun c H1 => if c = true then tu σ H1 R else R false H1) : tAnd tt tu σ H R := h
theorem w_tor {R : Bool → Hp → Prop} (h : tt σ H fun c H1 => if c = true then R true H1 else tu σ H1 R) : tOr tt tu σ H R := h
theorem w_tnot {R : Bool → Hp → Prop} (h : tt σ H fun c H1 => R (!c) H1) : tNot tt σ H R := h
theorem w_andV (h : ta σ H fun x H1 => ∃ c, x = .bl c ∧ if c = true then tb σ H1 Q else Q (.bl false) H1) : tAndV ta tb σ H Q := h
theorem w_orV (h : ta σ H fun x H1 => ∃ c, x = .bl c ∧ if c = true then Q (.bl true) H1 else tb σ H1 Q) : tOrV ta tb σ H Q := h
theorem w_notV (h : ta σ H fun x H1 => ∃ c, x = .bl c ∧ Q (.bl (!c)) H1) : tNotV ta σ H Q := h
theorem w_ifV (h : tt σ H fun c H1 => if c = true then ta σ H1 Q else tb σ H1 Q) : tIf tt ta tb σ H Q := h
theorem w_nil {R : List V → Hp → Prop} (h : R [] H) : tNil σ H R := h
theorem w_cons {tr : TA} {R : List V → Hp → Prop} (h : ta σ H fun x H1 => tr σ H1 fun xs H2 => R (x :: xs) H2) : tCons ta tr σ H R := h
theorem w_cb {r : List V → Hp → VK → Prop} {tl : TA} (h : tl σ H fun vs H1 => r vs H1 Q) : tCB r tl σ H Q := h
theorem w_call {sp : Sp} {dvs : List V} {E : XK} {tl : TA} (h : tl σ H fun vs H1 => sp (vs ++ dvs) H1 Q E) : tCall sp dvs E tl σ H Q := h
theorem w_call0 {sp : Sp} {E : XK} {tl : TA} (h : tl σ H fun vs H1 => sp vs H1 Q E) : tCall sp [] E tl σ H Q := by
  unfold tCall
  simp only [List.append_nil]
  exact h
theorem w_tup {tl : TA} (h : tl σ H fun xs H1 => xs.length ≤ sizeLine ∧ ∀ p, H1 p = none → Q (.ref p) (upd H1 p (.tup xs))) : tTup tl σ H Q := h
theorem w_lst {tl : TA} (h : tl σ H fun xs H1 => xs.length ≤ sizeLine ∧ ∀ p, H1 p = none → Q (.ref p) (upd H1 p (.lst xs))) : tLst tl σ H Q := h
def par2 (a b : Nat) (vs : List V) (σ : L2.St) (H : Hp) (R : L2.St → Hp → Prop) : Prop := ∃ v w, vs = [v, w] ∧ R ((σ.set a (some v)).set b (some w)) H
theorem w_par {a b : Nat} {tl : TA} (h : tl σ H fun vs H1 => par2 a b vs σ H1 D.nx) : tPar a b tl D σ H := h
theorem w_par2 {a b : Nat} {v w : V} {R : L2.St → Hp → Prop} (e : (σ.set a (some v)).set b (some w) = σ') (h : R σ' H) : par2 a b [v, w] σ H R := ⟨v, w, rfl, by rw [e]; exact h⟩
theorem w_gtup {n : Nat} {gs : TGs} {xs : List V} {R : L2.St → Hp → Prop} (h : SqT K H p xs) (l : xs.length = n) (q : gs xs σ H R) : gTup K n gs (.ref p) σ H R := ⟨p, xs, rfl, h, l, q⟩
theorem w_gcons {gs : TGs} {vs : List V} {R : L2.St → Hp → Prop} (h : g v σ H fun σ' H' => gs vs σ' H' R) : gCons g gs (v :: vs) σ H R := ⟨v, vs, rfl, h⟩
theorem w_gnil {R : L2.St → Hp → Prop} (h : R σ H) : gNil [] σ H R := ⟨rfl, h⟩
theorem w_gsub {to ti : TE} {ts : TSet} {R : L2.St → Hp → Prop} (h : to σ H fun o H1 => ti σ H1 fun i H2 => ts o i v H2 fun H3 => R σ H3) : gSub to ti ts v σ H R := h
theorem w_setL {xs : List V} {k : Int} {j : Nat} {R : Hp → Prop} (h : H p = some (.lst xs)) (e : ixN xs.length k = some j) (q : R (upd H p (.lst (xs.set j v)))) : rSetL (.ref p) (.int k) v H R := ⟨p, xs, k, j, rfl, rfl, h, e, q⟩
theorem w_rng1 {tl : TA} {R : It → Hp → Prop} (h : tl σ H fun vs H1 => ∃ j : Int, vs = [.int j] ∧ -(2 ^ 62) ≤ j ∧ j < 2 ^ 62 ∧ R (Itr 0 j.toNat) H1) : iRng1 tl σ H R := h
theorem w_rng1' {j : Int} {R : It → Prop} (h1 : -(2 ^ 62) ≤ j) (h2 : j < 2 ^ 62) (h : R (Itr 0 j.toNat)) : ∃ k : Int, [V.int j] = [.int k] ∧ -(2 ^ 62) ≤ k ∧ k < 2 ^ 62 ∧ R (Itr 0 k.toNat) := ⟨j, rfl, h1, h2, h⟩
theorem w_for {wi : TI} {tb' : TS} (h : wi σ H fun J H1 => ∃ W : Nat → Nat → L2.St → Hp → Prop, (∃ m, W 0 m σ H1) ∧ ∀ i m σ H, W i m σ H →
  (J.stop i H ∧ D.nx σ H) ∨ (J.go i H ∧ ∃ N : L2.St → Hp → Prop, (∀ σ' H', N σ' H' → ∃ m', m' < m ∧ W (i + 1) m' σ' H') ∧ ∀ x H', J.yld i H x H' → g x σ H' fun σ2 H2 => tb' { D with nx := N, ct := N, bk := D.nx } σ2 H2)) : tFor wi g tb' D σ H := h
theorem w_bits (h : te σ H fun x H1 => ∃ i, x = .int i ∧ Q (.int (Builtin.Int.intBits i : Nat)) H1) : tBits te σ H Q := h
theorem w_ex1 {a : Int} {R : Int → Prop} (h : R a) : ∃ i, V.int a = V.int i ∧ R i := ⟨a, rfl, h⟩
theorem w_exl {xs : List V} {R : List V → Prop} (h : R xs) : ∃ ys, xs = ys ∧ R ys := ⟨xs, rfl, h⟩
theorem sz4 {n : Nat} (h : n ≤ 1000) : n ≤ sizeLine := Nat.le_trans h (by decide)
theorem w_ixH {xs : List V} {k : Int} (h : H p = some (.lst xs)) (a : atI xs k = some v) (q : Q v H) : rIxL K (.ref p) (.int k) H Q := ⟨p, xs, k, v, rfl, rfl, .inl (.inl h), a, q⟩
theorem w_ixTH {xs : List V} {k : Int} (h : H p = some (.tup xs)) (a : atI xs k = some v) (q : Q v H) : rIxT K (.ref p) (.int k) H Q := ⟨p, xs, k, v, rfl, rfl, .inl (.inl h), a, q⟩
theorem w_gtupH {n : Nat} {gs : TGs} {xs : List V} {R : L2.St → Hp → Prop} (h : H p = some (.tup xs)) (l : xs.length = n) (q : gs xs σ H R) : gTup K n gs (.ref p) σ H R := ⟨p, xs, rfl, .inl (.inl h), l, q⟩
theorem w_setLu {xs ys : List V} {k : Int} {j : Nat} {R : Hp → Prop} {H0 : Hp} (e : ixN xs.length k = some j) (e2 : xs.set j v = ys) (q : R (upd H0 p (.lst ys))) : rSetL (.ref p) (.int k) v (upd H0 p (.lst xs)) R := ⟨p, xs, k, j, rfl, rfl, upd_same, e, by rw [upd_upd, e2]; exact q⟩
theorem w_setLh {xs ys : List V} {k : Int} {j : Nat} {R : Hp → Prop} (h : H p = some (.lst xs)) (e : ixN xs.length k = some j) (e2 : xs.set j v = ys) (q : R (upd H p (.lst ys))) : rSetL (.ref p) (.int k) v H R := ⟨p, xs, k, j, rfl, rfl, h, e, by rw [e2]; exact q⟩
theorem w_lenL {xs : List V} {R : V → Prop} (h : SqL K H p xs) (q : R (.int xs.length)) : ∃ a ys, [V.ref p] = [.ref a] ∧ (SqL K H a ys ∨ SqT K H a ys) ∧ R (.int ys.length) := ⟨p, xs, rfl, .inl h, q⟩
theorem w_lenT {xs : List V} {R : V → Prop} (h : SqT K H p xs) (q : R (.int xs.length)) : ∃ a ys, [V.ref p] = [.ref a] ∧ (SqL K H a ys ∨ SqT K H a ys) ∧ R (.int ys.length) := ⟨p, xs, rfl, .inr h, q⟩
theorem upd_skip {a b : Addr} {o : HO} {u : Option HO} (h : a ≠ b) (e : H a = u) : (upd H b o) a = u := by rw [upd_ne h]; exact e
section
variable {c A B : Prop} [Decidable c]
theorem w_ite (h1 : c → A) (h2 : ¬ c → B) : if decide c = true then A else B := by
  by_cases h : c
  · rw [if_pos (decide_eq_true h)]; exact h1 h
  · rw [if_neg (fun z => h (of_decide_eq_true z))]; exact h2 h
theorem w_iteN (h1 : ¬ c → A) (h2 : c → B) : if (!decide c) = true then A else B := by
  by_cases h : c
  · rw [decide_eq_true h]; exact h2 h
  · rw [decide_eq_false h]; exact h1 h
theorem w_iteT (h : c) (q : A) : if decide c = true then A else B := by rw [if_pos (decide_eq_true h)]; exact q
theorem w_iteF (h : ¬ c) (q : B) : if decide c = true then A else B := by rw [if_neg (fun z => h (of_decide_eq_true z))]; exact q
theorem w_iteNT (h : ¬ c) (q : A) : if (!decide c) = true then A else B := by rw [decide_eq_false h]; exact q
theorem w_iteNF (h : c) (q : B) : if (!decide c) = true then A else B := by rw [decide_eq_true h]; exact q
theorem w_iteb {k : Bool} (h1 : k = true → A) (h2 : k = false → B) : if k = true then A else B := by
  cases k with
  | true => exact h1 rfl
  | false => exact h2 rfl
theorem w_ibT (q : A) : if true = true then A else B := q
theorem w_ibF (q : B) : if false = true then A else B := q
theorem w_ibNT (q : A) : if (!false) = true then A else B := q
theorem w_ibNF (q : B) : if (!true) = true then A else B := q
end
theorem upd_fresh {a b : Addr} {o : HO} (h : H a = none) (h' : H b = some o) {u : HO} (hu : upd H b u a = none) : True := trivial
theorem fresh_of {a b : Addr} {u : HO} (h : (upd H b u) a = none) : a ≠ b ∧ H a = none := by
  by_cases e : a = b
  · subst e; rw [upd_same] at h; cases h
  · rw [upd_ne e] at h; exact ⟨e, h⟩
theorem pick {ns : List Int} {k : Int} (h0 : 0 ≤ k) (h : k < ns.length) : ∃ z, atI (ns.map V.int) k = some (.int z) ∧ z ∈ ns := by
  obtain ⟨j, rfl⟩ := Int.eq_ofNat_of_zero_le h0
  have hj : j < ns.length := by omega
  refine ⟨ns[j], atI_nat (j := j) ?_, List.getElem_mem hj⟩
  rw [List.getElem?_map, List.getElem?_eq_getElem hj]
  rfl
theorem w_isi {c x : V} {ty u : Value} {b : Bool} (hc : ClsV c u) (ht : TyX K H x ty) (e : PySem.W.kitOne K ty u = some b) (q : Q (.bl b) H) : rIsi K [x, c] H Q := ⟨x, c, ty, u, b, rfl, hc, ht, e, q⟩
theorem w_isi_ii {a : Int} (q : Q (.bl true) H) : rIsi K [.int a, .ty "int"] H Q := w_isi (.ty _) (.base (.int _)) (kit_ty (by decide +kernel)) q
theorem w_isi_ib {a : Int} (q : Q (.bl false) H) : rIsi K [.int a, .ty "bool"] H Q := w_isi (.ty _) (.base (.int _)) (kit_ty (by decide +kernel)) q
theorem w_isi_bb {a : Bool} (q : Q (.bl true) H) : rIsi K [.bl a, .ty "bool"] H Q := w_isi (.ty _) (.base (.bl _)) (kit_ty (by decide +kernel)) q
theorem w_isi_bi {a : Bool} (q : Q (.bl true) H) : rIsi K [.bl a, .ty "int"] H Q := w_isi (.ty _) (.base (.bl _)) (kit_ty (by decide +kernel)) q
theorem w_isi_ss {a : Str} (q : Q (.bl true) H) : rIsi K [.str a, .ty "str"] H Q := w_isi (.ty _) (.base (.str _)) (kit_ty (by decide +kernel)) q
theorem w_isi_is {a : Int} (q : Q (.bl false) H) : rIsi K [.int a, .ty "str"] H Q := w_isi (.ty _) (.base (.int _)) (kit_ty (by decide +kernel)) q
theorem w_isi_tt {xs : List V} (h : H p = some (.tup xs)) (q : Q (.bl true) H) : rIsi K [.ref p, .ty "tuple"] H Q := w_isi (.ty _) (.base (.tup h)) (kit_ty (by decide +kernel)) q
theorem w_isi_tl {xs : List V} (h : H p = some (.tup xs)) (q : Q (.bl false) H) : rIsi K [.ref p, .ty "list"] H Q := w_isi (.ty _) (.base (.tup h)) (kit_ty (by decide +kernel)) q
theorem w_isi_ll {xs : List V} (h : H p = some (.lst xs)) (q : Q (.bl true) H) : rIsi K [.ref p, .ty "list"] H Q := w_isi (.ty _) (.base (.lst h)) (kit_ty (by decide +kernel)) q
theorem w_isi_lt {xs : List V} (h : H p = some (.lst xs)) (q : Q (.bl false) H) : rIsi K [.ref p, .ty "tuple"] H Q := w_isi (.ty _) (.base (.lst h)) (kit_ty (by decide +kernel)) q
theorem w_isi_ti {xs : List V} (h : H p = some (.tup xs)) (q : Q (.bl false) H) : rIsi K [.ref p, .ty "int"] H Q := w_isi (.ty _) (.base (.tup h)) (kit_ty (by decide +kernel)) q
theorem w_isi_tb {xs : List V} (h : H p = some (.tup xs)) (q : Q (.bl false) H) : rIsi K [.ref p, .ty "bool"] H Q := w_isi (.ty _) (.base (.tup h)) (kit_ty (by decide +kernel)) q
theorem w_isi_ts {xs : List V} (h : H p = some (.tup xs)) (q : Q (.bl false) H) : rIsi K [.ref p, .ty "str"] H Q := w_isi (.ty _) (.base (.tup h)) (kit_ty (by decide +kernel)) q
theorem w_isi_li {xs : List V} (h : H p = some (.lst xs)) (q : Q (.bl false) H) : rIsi K [.ref p, .ty "int"] H Q := w_isi (.ty _) (.base (.lst h)) (kit_ty (by decide +kernel)) q
theorem w_isi_lb {xs : List V} (h : H p = some (.lst xs)) (q : Q (.bl false) H) : rIsi K [.ref p, .ty "bool"] H Q := w_isi (.ty _) (.base (.lst h)) (kit_ty (by decide +kernel)) q
theorem w_isi_ls {xs : List V} (h : H p = some (.lst xs)) (q : Q (.bl false) H) : rIsi K [.ref p, .ty "str"] H Q := w_isi (.ty _) (.base (.lst h)) (kit_ty (by decide +kernel)) q
theorem w_gcd {a b : Int} (q : Q (.int (Nat.gcd a.natAbs b.natAbs : Nat)) H) : rGcd [.int a, .int b] H Q := ⟨a, b, rfl, q⟩
theorem w_callN {n m : Nat} {sp : Sp} {gV : List V → List V → List V} {E : XK} {t1 t2 : TA} (h : t1 σ H fun vs H1 => t2 σ H1 fun zs H2 => vs.length = n ∧ zs.length = m ∧ sp (gV vs zs) H2 Q E) : tCallN n m sp gV E t1 t2 σ H Q := h
theorem w_callS {sp : Sp} {E : L2.St → XK} {t1 : TA} (h : t1 σ H fun vs H1 => sp vs H1 Q (E σ)) : tCallS sp E t1 σ H Q := h
theorem same_of {H H' : Hp} {p : Addr} {o : HO} (s : Same H H') (n : H' p = none) : Same H (upd H' p o) := fun b x e => by
  rw [upd_ne (ne_of_none (s b x e) n)]
  exact s b x e
theorem same_mut {H H' : Hp} {p : Addr} {o : HO} (s : Same H H') (n : H p = none) : Same H (upd H' p o) := fun b x e => by
  rw [upd_ne (ne_of_none e n)]
  exact s b x e
theorem w_dnew (h : ∀ d, H d = none → Q (.ref d) (upd H d (.dK []))) : tDNewK σ H Q := h
theorem w_dput {td ty tv : TE} (h : tv σ H fun v H1 => td σ H1 fun x H2 => ty σ H2 fun y H3 => ∃ a H4, x = .ref a ∧ DPut H3 a y v H4 ∧ D.nx σ H4) : sDPut td ty tv D σ H := h
theorem w_din {ty td : TE} (h : ty σ H fun y H1 => td σ H1 fun x H2 => ∃ a o, x = .ref a ∧ DGet H2 a y o ∧ Q (.bl o.isSome) H2) : tDIn ty td σ H Q := h
theorem w_dnin {ty td : TE} (h : ty σ H fun y H1 => td σ H1 fun x H2 => ∃ a o, x = .ref a ∧ DGet H2 a y o ∧ Q (.bl (!o.isSome)) H2) : tDNotIn ty td σ H Q := h
theorem w_iTup {tl : TE} {R : It → Hp → Prop} (h : tl σ H fun x H1 => ∃ a, x = .ref a ∧ (∃ xs, SqT K H1 a xs) ∧ R (Itt K a) H1) : iTup K tl σ H R := h
theorem w_iList {tl : TE} {R : It → Hp → Prop} (h : tl σ H fun x H1 => ∃ a, x = .ref a ∧ (∃ xs, SqL K H1 a xs) ∧ R (Itl K a) H1) : iList K tl σ H R := h
theorem w_lc {wi : TI} {ivs : List Nat} (h : wi σ H fun J H1 => ∀ Dl, H1 Dl = none → ∃ W : Nat → Nat → Hp → Prop, (∃ m, W 0 m (upd H1 Dl (.lst []))) ∧ ∀ i m H, W i m H →
  (J.stop i H ∧ Q (.ref Dl) H) ∨ (J.go i H ∧ ∃ Nx : Hp → Prop, (∀ H', Nx H' → ∃ m', m' < m ∧ W (i + 1) m' H') ∧ ∀ x H', J.yld i H x H' → g x (wipe σ ivs) H' fun σ2 H2 => wipe σ2 ivs = wipe σ ivs ∧ tt σ2 H2 fun b H3 =>
    if b = true then te σ2 H3 fun y H4 => ∃ acc, H4 Dl = some (.lst acc) ∧ acc.length < sizeLine ∧ Nx (upd H4 Dl (.lst (acc ++ [y]))) else Nx H3)) : tLc wi g tt te ivs σ H Q := h
theorem w_yes {R : Bool → Hp → Prop} (h : R true H) : tYes σ H R := h
theorem w_opin {neg : Bool} {xs : List V} (hs : SqL K H p xs ∨ SqT K H p xs) (hx : flatV x = true) (ha : xs.all flatV = true) (q : Q (.bl (if neg then !inV x xs else inV x xs)) H) : rIn K neg x (.ref p) H Q := ⟨p, xs, rfl, hs, hx, ha, q⟩
theorem w_isN (q : Q (.bl (decide (x = .non))) H) : (V.non = V.non ∧ Q (.bl (decide (x = .non))) H) := ⟨rfl, q⟩
theorem w_bm {T : String} {r : V → List V → Hp → VK → Prop} {to : TE} {tl : TA} (h : to σ H fun x H1 => tyV K T x H1 ∧ tl σ H1 fun xs H2 => r x xs H2 Q) : tBM K T r to tl σ H Q := h
theorem w_tyL {xs : List V} {R : Prop} (h : H p = some (.lst xs)) (q : R) : tyV K "list" (.ref p) H ∧ R := ⟨Or.inl ⟨rfl, xs, .inl (.inl h)⟩, q⟩
theorem w_app {xs : List V} (h : H p = some (.lst xs)) (l : xs.length < 100000) (q : Q .non (upd H p (.lst (xs ++ [v])))) : rAppend (.ref p) [v] H Q := ⟨p, xs, v, rfl, rfl, h, Nat.lt_of_lt_of_le l (by decide), q⟩
theorem w_bm0 {T : String} {r : V → List V → Hp → VK → Prop} {to : TE} (h : to σ H fun x H1 => tyV K T x H1 ∧ r x [] H1 Q) : tBM0 K T r to σ H Q := h
theorem w_rev {xs : List V} (h : H p = some (.lst xs)) (q : Q .non (upd H p (.lst xs.reverse))) : rReverse (.ref p) [] H Q := ⟨p, xs, rfl, rfl, h, q⟩
/-- pools -/
def IsPool (o : HO) : Prop := ∃ (c k : Int) (b : Bool) (s : Int), o = .lst [.int c, .int k, .bl b, .int s]
theorem upd_of {a b : Addr} {o : HO} (h : H b = none) {u : HO} (e : H a = some u) : (upd H b o) a = some u := by rw [upd_ne (ne_of_none e h)]; exact e
end Z
local macro_rules | `(tactic| walk_at "sz") => `(tactic| first | omega | (split <;> omega) | ((repeat' split) <;> omega) | (simp only [List.length_map]; (repeat' split) <;> omega))
local macro_rules | `(tactic| walk_at "hp") => `(tactic| first
  | assumption
  | exact L2.upd_same
  | ((refine' Z.upd_of ?h1 ?h2); (case h1 => assumption); (case h2 => walk_at "hp"))
  | ((refine' Z.upd_skip ?h1 ?h2); (case h1 => first | assumption | (apply Ne.symm; assumption)); (case h2 => walk_at "hp")))
local macro_rules | `(tactic| walk_at "cond") => `(tactic| first
  | exact L2.wide_mul (a := 200) (b := 200) (by omega) (by omega) (by decide) (by decide) (by decide)
  | exact L2.wide_div (b := 200) (by omega) (by omega) (by decide) (by decide)
  | exact ⟨by omega, by omega⟩
  | omega
  | exact (show (0 : Int) < _ by omega)
  | exact Or.inl ⟨by omega, by omega⟩
  | exact Or.inr ⟨by omega, by omega⟩
  | exact ⟨by omega, by omega, by decide⟩)
local macro_rules | `(tactic| walk_at "same") => `(tactic| first
  | assumption
  | exact L2.Same.refl _
  | (refine Z.same_of ?_ (by assumption); walk_at "same")
  | (refine Z.same_mut ?_ (by assumption); walk_at "same")
  | exact L2.Same.trans (by assumption) (by walk_at "same"))
local macro_rules | `(tactic| walk_at "seq") => `(tactic| first
  | assumption
  | (refine Or.inl (Or.inl ?_); walk_at "hp")
  | ((refine' L2.Same.seq ?se ?sh); (case sh => assumption); (case se => walk_at "same"))
  | ((refine' Evl.ex_t ?se ?sh); (case sh => assumption); (case se => walk_at "same")))
local macro_rules | `(tactic| walk_at "ar") => `(tactic| first
  | omega
  | (simp only [List.length_map, List.length_cons, List.length_nil]; omega))
local macro_rules | `(tactic| walk_at "w1") => `(tactic| first
  | with_reducible refine Z.w_seq ?_
  | with_reducible refine Z.w_asg ?_
  | with_reducible refine Z.w_op ?_
  | ((with_reducible refine' Z.w_var ?wv ?_); case wv => exact rfl)
  | with_reducible refine Z.w_c ?_
  | with_reducible refine Z.w_rI0 ?_
  | ((with_reducible refine' Z.w_gname ?we ?_); case we => (simp only [List.set_cons_zero, List.set_cons_succ] <;> rfl))
  | with_reducible refine Z.w_cons ?_
  | with_reducible refine Z.w_nil ?_
  | with_reducible refine Z.w_ifs ?_
  | with_reducible refine Z.w_test ?_
  | with_reducible refine Z.w_B ?_
  | with_reducible refine Z.w_bl ?_
  | with_reducible refine Z.w_rEqI ?_
  | with_reducible refine Z.w_rNeI ?_
  | with_reducible refine Z.w_cb ?_
  | with_reducible refine Z.w_call0 ?_
  | with_reducible refine Z.w_call ?_
  | with_reducible refine Z.w_isi_ii ?_
  | with_reducible refine Z.w_isi_ib ?_
  | with_reducible refine Z.w_isi_bb ?_
  | with_reducible refine Z.w_isi_bi ?_
  | with_reducible refine Z.w_isi_ss ?_
  | with_reducible refine Z.w_isi_is ?_
  | ((with_reducible refine' Z.w_isi_tt ?wh ?_); (case wh => walk_at "hp"))
  | ((with_reducible refine' Z.w_isi_tl ?wh ?_); (case wh => walk_at "hp"))
  | ((with_reducible refine' Z.w_isi_ll ?wh ?_); (case wh => walk_at "hp"))
  | ((with_reducible refine' Z.w_isi_lt ?wh ?_); (case wh => walk_at "hp"))
  | ((with_reducible refine' Z.w_isi_ti ?wh ?_); (case wh => walk_at "hp"))
  | ((with_reducible refine' Z.w_isi_tb ?wh ?_); (case wh => walk_at "hp"))
  | ((with_reducible refine' Z.w_isi_ts ?wh ?_); (case wh => walk_at "hp"))
  | ((with_reducible refine' Z.w_isi_li ?wh ?_); (case wh => walk_at "hp"))
  | ((with_reducible refine' Z.w_isi_lb ?wh ?_); (case wh => walk_at "hp"))
  | ((with_reducible refine' Z.w_isi_ls ?wh ?_); (case wh => walk_at "hp"))
  | with_reducible refine Z.w_tand ?_
  | with_reducible refine Z.w_tor ?_
  | with_reducible refine Z.w_tnot ?_
  | with_reducible refine Z.w_ret ?_
  | with_reducible refine Z.w_next ?_
  | with_reducible refine Z.w_un ?_
  | with_reducible refine Z.w_rU ?_
  | with_reducible refine Z.w_tup ?_
  | with_reducible refine Z.w_lst ?_
  | with_reducible refine Z.w_par ?_
  | ((with_reducible refine' Z.w_par2 ?we ?_); case we => (simp only [List.set_cons_zero, List.set_cons_succ] <;> rfl))
  | with_reducible refine Z.w_gsub ?_
  | with_reducible refine Z.w_andV ?_
  | with_reducible refine Z.w_orV ?_
  | with_reducible refine Z.w_notV ?_
  | with_reducible refine Z.w_ifV ?_
  | with_reducible refine Z.w_drop ?_
  | with_reducible refine Z.w_break ?_
  | with_reducible refine Z.w_cont ?_
  | with_reducible refine Z.w_gcons ?_
  | with_reducible refine Z.w_gnil ?_
  | with_reducible refine Z.w_for ?_
  | with_reducible refine Z.w_rng1 ?_
  | with_reducible refine Z.w_bits ?_
  | with_reducible refine Z.w_callN ?_
  | with_reducible refine Z.w_callS ?_
  | with_reducible refine Z.w_gcd ?_
  | with_reducible refine Z.w_dnew (fun d hd => ?_)
  | with_reducible refine Z.w_dput ?_
  | with_reducible refine Z.w_din ?_
  | with_reducible refine Z.w_dnin ?_
  | with_reducible refine Z.w_iTup ?_
  | with_reducible refine Z.w_iList ?_
  | with_reducible refine Z.w_lc ?_
  | with_reducible refine Z.w_yes ?_
  | ((with_reducible refine' ⟨_, rfl, ⟨_, ?wh⟩, ?_⟩); (case wh => walk_at "seq"))
  | with_reducible refine Z.w_ex1 ?_
  | ((with_reducible refine' Z.w_ixH ?wh ?wa ?_); (case wh => walk_at "hp"); (case wa => exact rfl))
  | ((with_reducible refine' Z.w_ixTH ?wh ?wa ?_); (case wh => walk_at "hp"); (case wa => exact rfl))
  | ((with_reducible refine' Z.w_gtupH ?wh ?wa ?_); (case wh => walk_at "hp"); (case wa => exact rfl))
  | ((with_reducible refine' Z.w_setLu ?wh ?wa ?_); (case wh => exact rfl); (case wa => (simp only [Int.reduceToNat, List.set_cons_zero, List.set_cons_succ] <;> rfl)))
  | ((with_reducible refine' Z.w_setLh ?wg ?wh ?wa ?_); (case wg => walk_at "hp"); (case wh => exact rfl); (case wa => (simp only [Int.reduceToNat, List.set_cons_zero, List.set_cons_succ] <;> rfl)))
  | ((with_reducible refine Z.w_rI ?wc ?_); (case wc => walk_at "cond"))
  | with_reducible refine Or.inl ⟨_, rfl, ?_⟩
  | with_reducible refine Or.inr ⟨_, rfl, ?_⟩
  | ((with_reducible refine' ⟨_, _, rfl, Or.inl ?wh, ?_⟩); (case wh => walk_at "seq"))
  | ((with_reducible refine' ⟨_, _, rfl, Or.inr ?wh, ?_⟩); (case wh => walk_at "seq"))
  | ((with_reducible refine' Z.w_ixL ?wh ?wa ?_); (case wh => assumption); (case wa => assumption))
  | with_reducible refine ⟨_, rfl, ?_⟩
  | with_reducible refine ⟨_, _, rfl, ?_⟩
  | ((with_reducible refine ⟨?wl, fun q hq' => ?_⟩); (case wl => exact Z.sz4 (by simp)))
  | with_reducible refine Z.w_ibT ?_
  | with_reducible refine Z.w_ibF ?_
  | with_reducible refine Z.w_ibNT ?_
  | with_reducible refine Z.w_ibNF ?_
  | ((with_reducible refine Z.w_iteT ?wh ?_); (case wh => walk_at "ar"))
  | ((with_reducible refine Z.w_iteF ?wh ?_); (case wh => walk_at "ar"))
  | ((with_reducible refine Z.w_iteNT ?wh ?_); (case wh => walk_at "ar"))
  | ((with_reducible refine Z.w_iteNF ?wh ?_); (case wh => walk_at "ar"))
  | with_reducible refine ⟨rfl, ?_⟩
  | ((with_reducible refine' Z.w_ixH ?wh ?wa ?_); (case wh => walk_at "hp"); (case wa => assumption))
  | ((with_reducible refine' Z.w_ixTH ?wh ?wa ?_); (case wh => walk_at "hp"); (case wa => assumption))
  | ((with_reducible refine' Z.w_ixL ?wh ?wa ?_); (case wh => walk_at "seq"); (case wa => assumption))
  | ((with_reducible refine' Z.w_ixT ?wh ?wa ?_); (case wh => walk_at "seq"); (case wa => assumption))
  | ((with_reducible refine Z.w_iteF ?wh ?_); (case wh => (intro h; cases h; done)))
  | ((with_reducible refine Z.w_iteT ?wh ?_); (case wh => exact rfl))
  | fail "w1")
local macro_rules | `(tactic| walk_at "wi") => `(tactic| first
  | with_reducible refine Z.w_ite (fun hc => ?_) (fun hc => ?_)
  | with_reducible refine Z.w_iteN (fun hc => ?_) (fun hc => ?_)
  | with_reducible refine Z.w_iteb (fun hc => ?_) (fun hc => ?_))
local macro_rules | `(tactic| walk_at "w") => `(tactic| repeat' walk_at "w1")
namespace OWN
open PySem PySem.Spec PyProof.Rows L2
section
variable {prog : Program} {w : World} {A : Around} {E : Value → Shared → Prop} {s : Shared}
theorem next_endG {it l : Addr} {i : Nat} {items : Array Value} {Q : Option Value → Shared → Prop} (hh : A.handled = none)
    (hit : s.heap.get? it = some (GNX.itObj l i)) (hl : s.heap.IsList l items) (hx : items[i]? = none)
    (hQ : ∀ h', Heap.ExtBut it s.heap h' → h'.get? it = some (GNX.itEnd i) → Q none { s with heap := h' }) : wpAny (model prog w) A (pyNext (.ref it)) Q E s := by
  have hT : s.TypeIs (.ref it) "list_iterator" := ⟨_, hit, rfl⟩
  obtain ⟨ol, hol, _, nl, hdl⟩ := hl
  unfold pyNext
  refine wpAny_bind (wpAny_attempt (wpAny_callSpecial?_slot (name := Str.ofString "__next__") hT slot_listiter_next
    (wpAny_call_entry slot_listiter_next hT entry_listiter_next ?_ (args_listiter_next _))))
  show wpAny _ _ (field (.ref it) 0 >>= _) _ _ s
  refine wpAny_bind (wpAny_field hit rfl (x := .ref l) rfl ?_)
  show wpAny _ _ (if (Value.ref l == Value.none) = true then _ else _) _ _ s
  rw [if_neg (show ¬ ((Value.ref l == Value.none) = true) from Bool.false_ne_true)]
  show wpAny _ _ (field (.ref it) 1 >>= _) _ _ s
  refine wpAny_bind (wpAny_field hit rfl (x := .int i 0) rfl ?_)
  show wpAny _ _ (seqItems? (.ref l) >>= _) _ _ s
  refine wpAny_bind (wpAny_seqItems hol hdl ?_)
  simp only [Int.toNat_natCast, hx]
  refine wpAny_bind (wpAny_rule (wpAny_bind (wpAny_setField hit rfl (by simp) ?_)))
  have hit2 : (s.heap.update it (Obj.mapFields (·.setIfInBounds 0 Value.none))).get? it = some (GNX.itEnd i) := by
    rw [Heap.get?_update_self _ hit (by rfl)]
    exact congrArg some (GNX.end_obj l i)
  show wpAny _ _ (newExc (.type "StopIteration") [] >>= _) _ _ _
  refine wpAny_bind ?_
  simp only [newExc, newTuple]
  refine wpAny_bind (wpAny_newObj_type ?_ (by size_fits))
  refine wpAny_bind (m := firstArgMember _ _) (wpAny_of_eq (a := Value.none) (by first | rfl | (simp only [firstArgMember]; rfl)) ?_)
  refine wpAny_newObj_type ?_ (by size_fits)
  simp only [raiseNew]
  refine wpAny_bind (wpAny_handled ?_)
  rw [show A.in1.handled = none from hh]
  refine wpAny_bind (wpAny_pure (wpAny_throw ?_))
  refine wpAny_bind (wpAny_isInstance (T := "StopIteration") (b := true) ⟨_, Heap.get?_push_size _ rfl, rfl⟩ isSubtype_stop ?_)
  exact wpAny_pure (hQ _ (((Heap.SameBut.update ..).extBut.push _).push _) (Heap.get?_push_of_some _ (Heap.get?_push_of_some _ hit2)))
theorem next_itemG {it l : Addr} {i : Nat} {items : Array Value} {x : Value} {Q : Option Value → Shared → Prop} (hit : s.heap.get? it = some (GNX.itObj l i))
    (hl : s.heap.IsList l items) (hx : items[i]? = some x)
    (hQ : ∀ h', h'.get? it = some (GNX.itObj l (i + 1)) → Heap.SameBut it s.heap h' → Q (some x) { s with heap := h' }) : wpAny (model prog w) A (pyNext (.ref it)) Q E s := by
  have hT : s.TypeIs (.ref it) "list_iterator" := ⟨_, hit, rfl⟩
  unfold pyNext
  refine wpAny_bind (wpAny_attempt (wpAny_callSpecial?_slot (name := Str.ofString "__next__") hT slot_listiter_next
    (wpAny_call_entry slot_listiter_next hT entry_listiter_next ?_ (args_listiter_next _))))
  exact GNX.next_item (Q := fun v s' => wpAny _ _ _ _ _ s') hit hl hx fun h' h1 h2 => wpAny_pure (hQ h' h1 h2)
end
section
variable {X : Cx} {pins : List (Addr × Obj)} {σ : L2.St} {H : Hp} {s : Shared} {C fl fi a : Addr} {n : Nat} {A1 : Around}
/-- a call of an own def with one argument, from within a built-in -/
theorem own_call {f : Addr} {fd : FuncData} {ps : List Str} {sp : Sp} {EI : XK} {Q : VK} {Ex : Value → Shared → Prop} (sb : Sub X n A1) (F : FnOk X.prog X.w X.K X.mg X.base CX0 n f fd ps sp) (b : Binds X.K fd ps []) (I : Inv X pins σ H s) (hsp : sp [.ref a] H Q EI) :
    wpAny (model X.prog X.w) A1 (call (.ref f) [.ref a]) (fun u s' => ∃ v H', Inv X pins σ H' s' ∧ RelV v u ∧ Q v H') Ex s := by
  have e0 : Env0 X.prog X.w X.K X.mg X.base A1 X.stack s H := by
    have e := I.env0
    exact ⟨by rw [sb.fr]; exact e.frames, e.mod, e.bs, e.bsz, e.funs, e.frf, e.hok, e.bare⟩
  have hl := F.len _ _ _ _ hsp
  have r2 : Vals [V.ref a] [Value.ref a] := .cons rfl .nil
  refine wpAny_call (codeAny_mono (F.run A1 X.stack s H ⟨[.ref a], []⟩ [.ref a] [.ref a] Q EI sb.room e0 (by
    have := b s [.ref a] I.kIn (by simpa using hl)
    simpa using this) r2 hsp) fun r s' hq => ?_)
  cases r with
  | error e => exact False.elim hq
  | ok fl =>
    cases fl with
    | ret u => exact I.after hq
    | next => exact False.elim hq
    | brk => exact False.elim hq
    | cont => exact False.elim hq
/-- an own __len__ -/
structure LnC (K : PySem.W.Frag) (C fl : Addr) : Prop where
  ln : PySem.W.findIn K (.ref C) "__len__" = some (some (.ref fl))
  lt : PySem.W.typeIn K (.ref fl) = some (.type "function")
theorem own_len {fd : FuncData} {ps : List Str} {sp : Sp} {Q : VK} {dx : Addr} {fs : List (Str × V)} {Ex : Value → Shared → Prop} (sb : Sub X n A1.in1) (hc : LnC X.K C fl) (F : FnOk X.prog X.w X.K X.mg X.base CX0 n fl fd ps sp) (b : Binds X.K fd ps []) (I : Inv X pins σ H s) (ha : H a = some (.ins C dx fs))
    (hsp : sp [.ref a] H (fun v H' => ∃ k : Nat, v = .int k ∧ k < 2 ^ 60 ∧ Q (.int k) H') E0) :
    wpAny (model X.prog X.w) A1 (call (.builtin "len") [.ref a]) (fun u s' => ∃ (k : Nat) (tk : Tok) (H' : Hp), u = .int k tk ∧ k < 2 ^ 60 ∧ Inv X pins σ H' s' ∧ Q (.int k) H') Ex s := by
  obtain ⟨mA, J, _⟩ := ins_get I.hok ha
  obtain ⟨od, J, _⟩ := J.look
  refine Calls.call_function_entry kind_len plain_len entry_len (args_len1 _) ?_
  unfold Builtin.«len»
  refine wpAny_bind (m := oneArg "len" _) (wpAny_pure ?_)
  refine wpAny_bind (m := callSpecial? (.ref a) (Str.ofString "__len__")) (PySem.W.special_fn (name := "__len__") (args := []) I.kIn J hc.ln hc.lt ?_)
  refine wpAny_mono (own_call sb F b I hsp) (fun u s' hu => ?_) fun _ _ z => z
  obtain ⟨v, H', I', r, k, rfl, hk, q⟩ := hu
  obtain ⟨t, rfl⟩ := (show ∃ t, u = Value.int k t from r)
  show wpAny _ _ _ _ _ _
  refine wpAny_bind (wpAny_holding (wpAny_pure ?_))
  refine wpAny_bind (wpAny_letGo ?_)
  show wpAny _ _ (if (k : Int) < 0 then _ else _) _ _ _
  rw [if_neg (by omega)]
  show wpAny _ _ (if (k : Int) ≥ 2 ^ 63 then _ else _) _ _ _
  rw [if_neg (by omega)]
  exact wpAny_bind (wpAny_mkInt (wpAny_pure ⟨_, rfl, k, _, H', rfl, hk, I'.kept (t' := _) (fun _ _ z => z), q⟩))
def rLenOwn (C : Addr) (sp : Sp) : List V → Hp → VK → Prop := fun xs H Q => ∃ (a dx : Addr) (fs : List (Str × V)), xs = [.ref a] ∧ H a = some (.ins C dx fs) ∧ sp [.ref a] H (fun v H' => ∃ k : Nat, v = .int k ∧ k < 2 ^ 60 ∧ Q (.int k) H') E0
/-- len(o) -/
theorem call_lenOwn {fd : FuncData} {ps : List Str} {sp : Sp} (hc : LnC X.K C fl) (F : FnOk X.prog X.w X.K X.mg X.base CX0 n fl fd ps sp) (b : Binds X.K fd ps []) (hr : Room (n + 1) X.A) : CallR X (.builtin "len") (rLenOwn C sp) := by
  intro pins s σ H xs us Q I rv h
  obtain ⟨a, dx, fs, rfl, ha, hsp⟩ := h
  obtain ⟨u, rfl, ru⟩ := rv.one
  cases ru
  refine wpAny_mono (own_len (Sub.in1 (⟨hr, rfl⟩ : Sub X (n + 1) X.A)) hc F b I ha hsp) (fun u s' hu => ?_) fun _ _ z => z
  obtain ⟨k, tk, H', rfl, hk, I', q⟩ := hu
  exact ⟨.int k, H', I', ⟨_, rfl⟩, q⟩
/-- an own __iter__ that gives an iterator over a list, and an own __len__ -/
structure ItB (K : PySem.W.Frag) (C fi fl : Addr) : Prop where
  it : PySem.W.findIn K (.ref C) "__iter__" = some (some (.ref fi))
  itF : PySem.W.isFn K (.ref fi) = true
  ln : LnC K C fl
theorem upd_swap {H : Hp} {q it : Addr} {o1 o2 o3 o4 : HO} (h : q ≠ it) : upd (upd (upd (upd H q o1) it o2) it o3) q o4 = upd (upd H q o4) it o3 := by
  funext b
  by_cases h1 : b = q
  · subst h1
    rw [upd_same, upd_ne h, upd_same]
  · rw [upd_ne h1]
    by_cases h2 : b = it
    · subst h2
      rw [upd_same, upd_same]
    · rw [upd_ne h2, upd_ne h2, upd_ne h1, upd_ne h2, upd_ne h1]
theorem sqL_upd {K : PySem.W.Frag} {H : Hp} {l b : Addr} {o : HO} {xs : List V} (h : SqL K H l xs) (n : l ≠ b) : SqL K (upd H b o) l xs := by
  rcases h with (h | ⟨o', h⟩) | h
  · exact .inl (.inl (by rw [upd_ne n]; exact h))
  · exact .inl (.inr ⟨o', by rw [upd_ne n]; exact h⟩)
  · exact .inr h
theorem it_loop {q l it : Addr} {ys : List V} {H0 : Hp} {Rs : Result → Shared → Prop} (hh : A1.in1.handled = none) (hS : SqL X.K H0 l ys) (n1 : l ≠ q) (n2 : l ≠ it) (n3 : q ≠ it) (hz : ys.length ≤ sizeLine)
    (hdone : ∀ s, Inv X pins σ (upd (upd H0 q (.lst ys)) it (ItE it ys.length)) s → Rs (.ok (.ret .none)) s) :
    ∀ (m i : Nat) (s : Shared), m = ys.length - i → i ≤ ys.length → Inv X pins σ (upd (upd H0 q (.lst (ys.take i))) it (ItO l it i)) s → codeAny (model X.prog X.w) A1 (.builtin "list.extend.loop" ⟨[.ref q, .ref it, .none], []⟩) Rs s := by
  intro m
  induction m with
  | zero =>
    intro i s hm hi I
    have e : i = ys.length := by omega
    subst e
    refine codeAny_builtin PySem.F.entry_extend_loop ?_
    rw [Around.under_plainId PySem.F.plain_extend_loop _]
    show wpAny _ A1.in1 (pyNext (.ref it) >>= _) _ _ s
    have hit := (I.hok it _ upd_same).1
    obtain ⟨its, rv, pl, _⟩ := I.list (sqL_upd (sqL_upd hS n1) n2)
    have hlen := rv.length
    refine wpAny_bind (next_endG hh hit pl.isList (by simp [hlen]) fun h' hx he => ?_)
    refine wpAny_pure (hdone _ ?_)
    have I1 : Inv X pins σ (upd (upd (upd H0 q (.lst (ys.take ys.length))) it (ItO l it ys.length)) it (ItE it ys.length)) { s with heap := h' } :=
      I.write (x := it) (e := it) (t' := s.toks) (by rw [upd_same]; exact trivial) (.inl rfl) (fun b u hb e => hx b u hb e) ⟨_, he⟩ (itE_ok he)
    rw [upd_upd, List.take_length] at I1
    exact I1
  | succ m ih =>
    intro i s hm hi I
    have hlt : i < ys.length := by omega
    refine codeAny_builtin PySem.F.entry_extend_loop ?_
    rw [Around.under_plainId PySem.F.plain_extend_loop _]
    show wpAny _ A1.in1 (pyNext (.ref it) >>= _) _ _ s
    have hit := (I.hok it _ upd_same).1
    obtain ⟨its, rv, pl, _⟩ := I.list (sqL_upd (sqL_upd hS n1) n2)
    have hlen := rv.length
    obtain ⟨u, hu, ru⟩ := rv.get (List.getElem?_eq_getElem hlt)
    refine wpAny_bind (next_itemG hit pl.isList (x := u) (by simpa using hu) fun h' he hx => ?_)
    have I1 : Inv X pins σ (upd (upd (upd H0 q (.lst (ys.take i))) it (ItO l it i)) it (ItO l it (i + 1))) { s with heap := h' } :=
      I.write (x := it) (e := it) (t' := s.toks) (by rw [upd_same]; exact trivial) (.inl rfl) (fun b u hb e => (hx.2 b hb).trans e) ⟨_, he⟩ (itO_ok he)
    have hq : (upd (upd (upd H0 q (.lst (ys.take i))) it (ItO l it i)) it (ItO l it (i + 1))) q = some (.lst (ys.take i)) := by rw [upd_ne n3, upd_ne n3, upd_same]
    obtain ⟨z, is2, k, r2, hl2, e⟩ := I1.lstM hq
    have hl3 : is2.length ≤ sizeLine := by omega
    rw [List.length_take] at hl2
    show wpAny _ A1.in1 (updateSeq q (·.push u) >>= _) _ _ _
    refine wpAny_bind (wpAny_updateSeq e rfl (wpAny_pure ⟨plainId_quiet PySem.F.plain_extend_loop _, ?_⟩) (by rw [List.size_toArray]; omega) (by show (is2.toArray.push u).size ≤ sizeLine + 1; rw [Array.size_push, List.size_toArray]; omega))
    have ht : ys.take (i + 1) = ys.take i ++ [ys[i]] := by rw [List.take_add_one, List.getElem?_eq_getElem hlt]; rfl
    refine ih (i + 1) _ (by omega) hlt ?_
    have I2 := I1.lset (its' := is2 ++ [u]) (ys := ys.take (i + 1)) (t' := s.toks) (f := (·.push u)) hq e (by simp) (by rw [ht]; exact r2.append (.cons ru .nil)) (by rw [List.length_take]; omega)
    rw [upd_swap n3] at I2
    exact I2
/-- list(o) -/
def LenEnd (H : Hp) (R : Prop) : VK := fun v H' => ∃ k : Nat, v = .int k ∧ k < 2 ^ 60 ∧ (H' = H ∧ (∀ j : Nat, V.int k = .int j → j ≤ sizeLine) ∧ R)
def rListIt (K : PySem.W.Frag) (C : Addr) (spI spL : Sp) : List V → Hp → VK → Prop := fun xs H Q => ∃ (a dx : Addr) (fs : List (Str × V)), xs = [.ref a] ∧ H a = some (.ins C dx fs) ∧
  ∀ q, H q = none → spI [.ref a] (upd H q (.lst [])) (fun v H1 => ∃ (l it : Addr) (ys : List V) (Hb : Hp) (fs' : List (Str × V)) (dx' : Addr), v = .ref it ∧ H1 = upd (upd Hb q (.lst [])) it (ItO l it 0) ∧ l ≠ q ∧ l ≠ it ∧ q ≠ it ∧ ys.length ≤ 1000 ∧ SqL K Hb l ys ∧ H1 a = some (.ins C dx' fs') ∧
    spL [.ref a] H1 (LenEnd H1 (Q (.ref q) (upd (upd Hb q (.lst ys)) it (ItE it ys.length)))) E0) E0
theorem own_hintL {fd : FuncData} {ps : List Str} {sp : Sp} {dx : Addr} {fs : List (Str × V)} {Qb : Bool → Shared → Prop} {Ex : Value → Shared → Prop} (sb : Sub X n A1.in1) (hc : LnC X.K C fl) (F : FnOk X.prog X.w X.K X.mg X.base CX0 n fl fd ps sp) (b : Binds X.K fd ps []) (I : Inv X pins σ H s) (ha : H a = some (.ins C dx fs))
    {R : Prop} (hsp : sp [.ref a] H (LenEnd H R) E0) (hq : ∀ b s', R → Inv X pins σ H s' → Qb b s') :
    wpAny (model X.prog X.w) A1 (Builtin.List.listLengthHint (.ref a)) Qb Ex s := by
  obtain ⟨mA, J, _⟩ := ins_get I.hok ha
  obtain ⟨od, J, _⟩ := J.look
  unfold Builtin.List.listLengthHint
  refine wpAny_bind (wpAny_bind (J.type.here ((PySem.W.looks_findIn I.kIn hc.ln).here ?_)))
  refine PySem.W.KFB.if_not rfl ?_
  rw [if_pos (show (some (Value.ref fl)).isSome = true from rfl)]
  refine wpAny_bind (wpAny_rule ?_)
  refine wpAny_bind (wpAny_attempt (wpAny_mono (own_len (Q := fun v H' => H' = H ∧ (∀ j : Nat, v = .int j → j ≤ sizeLine) ∧ R) (Ex := fun _ _ => False) sb hc F b I ha hsp) (fun u s' hu => ?_) fun e s' he => he.elim))
  obtain ⟨k, tk, H', rfl, hk, I', rfl, hz, hR⟩ := hu
  have hz' := hz k rfl
  show wpAny _ _ _ _ _ _
  refine wpAny_bind (wpAny_pure ?_)
  show wpAny _ _ (if Builtin.List.listTooLong ((k : Int)).toNat = true then _ else pure ((k : Int) != 0)) _ _ _
  rw [if_neg (by rw [Int.toNat_natCast, notLongL hz']; exact Bool.false_ne_true)]
  exact wpAny_pure (hq _ _ hR I')
theorem listiter_next : typeLookup (.type "list_iterator") "__next__" = pure (some (.builtin "list_iterator.__next__")) := slot_listiter_next.lookup
theorem call_listIt {fdI fdL : FuncData} {psI psL : List Str} {spI spL : Sp} (hc : ItB X.K C fi fl) (FI : FnOk X.prog X.w X.K X.mg X.base CX0 n fi fdI psI spI) (bI : Binds X.K fdI psI []) (FL : FnOk X.prog X.w X.K X.mg X.base CX0 n fl fdL psL spL) (bL : Binds X.K fdL psL []) (hr : Room (n + 3) X.A) (hh : X.A.handled = none) : CallR X (.type "list") (rListIt X.K C spI spL) := by
  intro pins s σ H xs us Q I rv h
  obtain ⟨a, dx, fs, rfl, ha, hq⟩ := h
  obtain ⟨u, rfl, ru⟩ := rv.one
  cases ru
  have sb : Sub X (n + 1) X.A.in1.in1 := Sub.in1 (Sub.in1 (⟨hr, rfl⟩ : Sub X (n + 3) X.A))
  refine callType_codes (Q₁ := fun obj s₁ => obj = .ref s.heap.objs.size ∧ s₁ = { s with heap := s.heap.push { cls := .type "list", data := .seq #[] } }) PySem.F.called_list (PySem.F.typeCall_list_1 _) PySem.F.entry_list_init
    (code_list_new _ ⟨rfl, rfl⟩) fun obj s₁ h₁ => ?_
  obtain ⟨rfl, rfl⟩ := h₁
  have hS : (s.heap.push { cls := .type "list", data := .seq #[] }).get? s.heap.objs.size = some { cls := .type "list", data := .seq #[] } := Heap.get?_push_size _ rfl
  refine ⟨⟨_, hS, rfl⟩, PySem.F.args_list_init_2 _ _, ?_⟩
  have fr : H s.heap.objs.size = none := I.hok.fresh (Nat.le_refl _)
  have hrun := hq _ fr
  have I1 : Inv X pins σ (upd H s.heap.objs.size (.lst [])) { s with heap := s.heap.push { cls := .type "list", data := .seq #[] } } := I.lnew (its := []) (t' := s.toks) .nil (Nat.zero_le _)
  show wpAny _ _ (do let old ← Builtin.List.listItems (.ref s.heap.objs.size); Builtin.List.listUpdate (.ref s.heap.objs.size) (fun _ => #[]); letGo old.toList.reverse; Builtin.List.listExtendWith (.ref s.heap.objs.size) (.ref a) .none) _ _ _
  refine wpAny_bind ?_
  unfold Builtin.List.listItems
  refine wpAny_bind (wpAny_seqItems hS rfl (wpAny_pure ?_))
  show wpAny _ _ (updateSeq s.heap.objs.size (fun _ => #[]) >>= fun _ => letGo (#[] : Array Value).toList.reverse >>= fun _ => Builtin.List.listExtendWith (.ref s.heap.objs.size) (.ref a) .none) _ _ _
  refine wpAny_bind (wpAny_updateSeq hS rfl ?_)
  have I2 := I1.lset (f := fun _ => #[]) (its := []) (its' := []) (ys := []) (t' := s.toks) upd_same hS rfl .nil (Nat.zero_le _)
  rw [upd_upd] at I2
  refine wpAny_bind (wpAny_letGo ?_)
  have ha2 : upd H s.heap.objs.size (.lst []) a = some (.ins C dx fs) := by rw [upd_ne (ne_of_none ha fr)]; exact ha
  have hne : s.heap.objs.size ≠ a := Ne.symm (ne_of_none ha fr)
  generalize s.heap.objs.size = q at *
  obtain ⟨mA, J, _⟩ := ins_get I2.hok ha2
  obtain ⟨od, J, _⟩ := J.look
  obtain ⟨m0, hF⟩ := I2.fr
  unfold Builtin.List.listExtendWith
  refine wpAny_bind (J.type.here ?_)
  have h1 : Builtin.List.listSameRef (.ref q) (.ref a) = false := by simp [Builtin.List.listSameRef, hne]
  have h2 : (Value.ref C == Value.type "list") = false := rfl
  have h3 : (Value.ref C == Value.type "tuple") = false := rfl
  simp only [h1, h2, h3, Bool.or_false, Bool.false_eq_true, if_false]
  refine wpAny_bind (PySem.W.owit_iter hF I2.ok.mod.kin J hc.it hc.itF ?_)
  refine wpAny_mono (own_call (sb.mono (Nat.le_succ _)) FI bI I2 hrun) (fun u s' hu => ?_) fun _ _ z => z
  obtain ⟨v, H1, J1, rv1, l, it, ys, Hb, fs', dx', rfl, rfl, n1, n2, n3, hy, hS1, ha3, hlen⟩ := hu
  cases rv1
  have hz : ys.length ≤ sizeLine := Nat.le_trans hy (by decide)
  have hit := (J1.hok it _ upd_same).1
  have hT : s'.TypeIs (.ref it) "list_iterator" := ⟨_, hit, rfl⟩
  unfold PySem.W.OwitIt
  refine wpAny_specialOf (name := "__next__") hT listiter_next ?_
  refine wpAny_bind (wpAny_holding (own_hintL sb.in1 hc.ln FL bL J1 ha3 hlen fun b s2 hR J2 => ?_))
  have fin : ∀ s3, Inv X pins σ (upd (upd Hb q (.lst [])) it (ItO l it 0)) s3 → codeAny (model X.prog X.w) X.A.in1 (.builtin "list.extend.loop" ⟨[.ref q, .ref it, .none], []⟩) (wants (fun r s₂ => r = .none ∧ EP X pins σ Q (.ref q) s₂) X.xe) s3 := fun s3 J3 =>
    it_loop (A1 := X.A.in1) (H0 := Hb) (ys := ys) hh hS1 n1 n2 n3 hz (fun s4 J4 => ⟨rfl, .ref q, _, J4, rfl, hR⟩) ys.length 0 s3 rfl (Nat.zero_le _) J3
  refine wpAny_ite_split (fun _ => ?_) (fun _ => wpAny_pure ⟨plainId_quiet PySem.F.plain_extend_loop _, fin _ J2⟩)
  have hq0 : (upd (upd Hb q (.lst [])) it (ItO l it 0)) q = some (.lst []) := by rw [upd_ne n3, upd_same]
  obtain ⟨z, its, k, r3, hl3, e3⟩ := J2.lstM hq0
  cases r3
  refine wpAny_bind (wpAny_rule ?_)
  refine wpAny_bind ?_
  show wpAny _ _ (updateSeq q (·.push .none) >>= fun _ => updateSeq q (·.pop)) _ _ _
  refine wpAny_bind (wpAny_updateSeq e3 rfl ?_)
  have I5 := J2.lset (f := (·.push Value.none)) (its' := [Value.none]) (ys := [.non]) (t' := s2.toks) hq0 e3 (by simp) (.cons rfl .nil) (by rw [List.length_singleton, sizeLine_eq]; decide)
  obtain ⟨z4, its4, k4, r4, hl4, e4⟩ := I5.lstM upd_same
  obtain ⟨u4, rfl, ru4⟩ := r4.one
  refine wpAny_updateSeq e4 rfl ?_ (by show 1 ≤ sizeLine; rw [sizeLine_eq]; decide) (by show 0 ≤ sizeLine + 1; exact Nat.zero_le _)
  refine wpAny_pure ⟨plainId_quiet PySem.F.plain_extend_loop _, fin _ ?_⟩
  have I6 := I5.lset (f := (·.pop)) (its := [u4]) (its' := []) (ys := []) (t' := s2.toks) upd_same e4 (by rfl) .nil (Nat.zero_le _)
  rw [upd_upd] at I6
  have hH : upd (upd (upd Hb q (.lst [])) it (ItO l it 0)) q (.lst []) = upd (upd Hb q (.lst [])) it (ItO l it 0) := by
    funext b
    by_cases hb : b = q
    · rw [hb, upd_same, hq0]
    · rw [upd_ne hb]
  rw [hH] at I6
  exact I6
end
end OWN

namespace DT
open PySem PySem.Spec PyProof.Rows L2
/-- what is known of a tuple that was made from a list -/
def Bare (o : Obj) : Prop := o.cls = .type "tuple" ∧ o.dict = none
section
variable {X : Cx}
def rTupZ (K : PySem.W.Frag) : List V → Hp → VK → Prop := fun xs H Q => ∃ (p : Addr) (ys : List V), xs = [.ref p] ∧ SqL K H p ys ∧ ∀ (l : Addr) (o : Obj), H l = none → Bare o → Q (.ref l) (upd H l (.frz o (.tup ys)))
theorem call_tupleZ : CallR X (.type "tuple") (rTupZ X.K) := by
  intro pins s σ H xs us Q I r h
  obtain ⟨p, ys, rfl, hq, q⟩ := h
  obtain ⟨u, rfl, rx⟩ := vals1 r
  cases rx
  obtain ⟨its, r', pl, hz⟩ := I.list hq
  have hlen := r'.length
  refine call_tuple_list pl.isList (fun h' kp => ?_) (by simp only [List.size_toArray] <;> omega)
  have I1 : Inv X pins σ H { s with heap := h' } := I.kept (t' := s.toks) kp
  have I2 : Inv X pins σ (upd H h'.objs.size (.frz { cls := .type "tuple", data := .seq its.toArray } (.tup ys))) { s with heap := h'.push { cls := .type "tuple", data := .seq its.toArray } } :=
    I1.laid (t' := s.toks) (fun b o e => Heap.get?_push_of_some _ e) (Nat.le_refl _) (show ObjOk X.prog X.w _ _ _ (.frz _ (.tup ys)) from ⟨Heap.get?_push_size _ rfl, hz, its, r', IsTup.new _ _⟩)
  exact ⟨.ref h'.objs.size, _, I2, rfl, q _ _ (I1.hok.fresh (Nat.le_refl _)) ⟨rfl, rfl⟩⟩
theorem pairs_of2 {pins : List (Addr × Obj)} {σ : L2.St} {H : Hp} {s : Shared} (I : Inv X pins σ H s) : ∀ {ps : List Addr} {kvs : List (Key × V)}, PySem.Paired (fun p kv => SqT X.K H p [kV kv.1, kv.2]) ps kvs →
    ∃ (prs : List (Key × Value)) (uvs : List (Value × Value)), KV kvs prs ∧ prs.length = ps.length ∧ uvs.length = ps.length ∧ ∀ (j : Nat) (u x : Value), uvs[j]? = some (u, x) → ∃ (b : Addr) (k : Key), ps[j]? = some b ∧ prs[j]? = some (k, x) ∧ IsTup s.heap b #[u, x] ∧ keyIs k u = true
  | _, _, .nil => ⟨[], [], .nil, rfl, rfl, fun j u x e => by simp at e⟩
  | _, _, .cons (a := p) (b := kv) h t => by
    obtain ⟨prs, uvs, r, hl, hl2, hp⟩ := pairs_of2 I t
    obtain ⟨its, rv, ht, _⟩ := I.tuple h
    obtain ⟨u, y, ei, ru, ry⟩ := vals2 rv
    subst ei
    refine ⟨(kv.1, y) :: prs, (u, y) :: uvs, .cons ⟨rfl, ry⟩ r, by rw [List.length_cons, List.length_cons, hl], by rw [List.length_cons, List.length_cons, hl2], fun j u' x e => ?_⟩
    cases j with
    | zero =>
      have e' : (u, y) = (u', x) := Option.some.inj e
      obtain ⟨e1, e2⟩ := Prod.mk.inj e'
      subst e1
      subst e2
      exact ⟨p, kv.1, rfl, rfl, ht, kV_is (P := X.prog) (w := X.w) ru⟩
    | succ j =>
      obtain ⟨b, k, e1, e2, e3⟩ := hp j u' x (by simpa using e)
      exact ⟨b, k, by simpa using e1, by simpa using e2, e3⟩
def rDictT (K : PySem.W.Frag) : List V → Hp → VK → Prop := fun xs H Q => ∃ (a : Addr) (o : Obj) (ps : List Addr) (kvs : List (Key × V)), xs = [.ref a] ∧ H a = some (.frz o (.tup (ps.map V.ref))) ∧ Bare o ∧ PySem.Paired (fun p kv => SqT K H p [kV kv.1, kv.2]) ps kvs ∧
    ∀ p, H p = none → Q (.ref p) (upd H p (.dK (mergeK [] kvs)))
theorem call_dictT (hcalm : X.calm = true) : CallR X (.type "dict") (rDictT X.K) := by
  intro pins s σ H xs us Q I r q
  obtain ⟨a, o, ps, kvs, rfl, ha, ⟨hcls, hdict⟩, hp, q⟩ := q
  obtain ⟨u, rfl, rx⟩ := vals1 r
  cases rx
  obtain ⟨ho, hz, its, rv, o', ho', hc', n, hdat⟩ := (show ObjOk X.prog X.w H s.heap a (.frz o (.tup (ps.map V.ref))) from I.hok a _ ha)
  have eo : o' = o := Option.some.inj (ho'.symm.trans ho)
  subst eo
  have ei := refs_at rv
  subst ei
  rw [List.length_map] at hz
  obtain ⟨prs, uvs, rel, hl, hl2, hpr⟩ := pairs_of2 I hp
  have hP := PairArg.tuple (prog := X.prog) (w := X.w) a (ps.map Value.ref).toArray (fun j => ps.getD j 0) uvs
  refine PySem.call_dict_pairs (knd := mixKind X.prog X.w) (kvs := prs) hP (I.ok.hd hcalm) ⟨⟨o', n, ho, hc', hdict, hdat⟩, ?_, fun j k v e => ?_⟩ ⟨by rw [hl, hl2], fun i key v e => ?_⟩ (by rw [hl2]; exact hz) fun h' tk hd' k => ?_
  · simp [hl2]
  · obtain ⟨b, k', e1, e2, e3, e4⟩ := hpr j k v e
    have hg : ps.getD j 0 = b := by
      rw [List.getD_eq_getElem?_getD, e1]
      rfl
    show (ps.map Value.ref).toArray[j]? = some (.ref (ps.getD j 0)) ∧ PairAt s.heap (ps.getD j 0) k v
    rw [hg]
    exact ⟨by simp [e1], .inl e3⟩
  · obtain ⟨b, k', e1, e2, e3, e4⟩ := hpr i key v e
    exact ⟨k', e2, e4⟩
  · have hm : (s.heap.objs.size == sysModules) = false := beq_eq_false_iff_ne.mpr (Nat.ne_of_gt I.big)
    have hlen : (mergeK [] kvs).length ≤ sizeLine := by
      refine Nat.le_trans (length_mergeK kvs []) ?_
      rw [List.length_nil, Nat.zero_add, rel.length, hl]
      exact hz
    exact ⟨.ref s.heap.objs.size, upd H s.heap.objs.size (.dK (mergeK [] kvs)), I.laid (t' := tk) (fun b o e => k b o (by intro h; cases h) e) (Nat.le_refl _) (show ObjOk X.prog X.w _ _ _ (.dK (mergeK [] kvs)) from ⟨hlen, hm, merged [] prs, KV.merge rel .nil, hd'⟩), rfl, q _ (I.hok.fresh (Nat.le_refl _))⟩
theorem hits_ref {A : Around} {s : Shared} {kvs : List (Key × V)} {vb : List (Key × Value)} (rb : KV kvs vb) {ks : List (Key × V)} {va : List (Key × Value)} (ra : KV ks va) :
    (∀ p ∈ ks, valV kvs p.1 = some p.2 ∧ ∃ t, p.2 = V.ref t) → PySem.W.KeqHits A s vb va true := by
  unfold KV at ra
  induction ra with
  | nil => intro _; exact .nil
  | @cons p q ps qs h t ih =>
    intro hp
    obtain ⟨h1, h2⟩ := h
    obtain ⟨e, t', f⟩ := hp p List.mem_cons_self
    have rr : RelO (some p.2) (valueAt vb p.1) := by rw [← e]; exact rb.val p.1
    obtain ⟨y, hy, ry⟩ := rr.some_of
    obtain ⟨k, v⟩ := q
    have h1' : p.1 = k := h1
    rw [h1'] at hy
    rw [f] at ry h2
    have e1 : y = Value.ref t' := ry
    have e2 : v = Value.ref t' := h2
    subst e1
    subst e2
    show PySem.W.KeqHits A s vb ((k, Value.ref t') :: qs) (true && true)
    exact .hit hy (SeqAt.EqAt.same _) (ih fun p' hm => hp p' (List.mem_cons_of_mem _ hm))
def rEqDR : R2 := fun x y H Q => ∃ (a b : Addr) (kvs : List (Key × V)), x = .ref a ∧ y = .ref b ∧ H a = some (.dK kvs) ∧ H b = some (.dK kvs) ∧ (kvs.map (·.1)).Nodup ∧ (∀ p ∈ kvs, ∃ t, p.2 = V.ref t) ∧ Q (.bl true) H
theorem op_eq_dictR (hu : X.A.units < cLine) : OpR X (compareOp .Eq) rEqDR := by
  intro pins s σ H x y v u Q I rx ry h
  obtain ⟨a, b, kvs, rfl, rfl, ea, eb, nd, fl, q⟩ := h
  obtain rfl : v = Value.ref a := rx
  obtain rfl : u = Value.ref b := ry
  obtain ⟨_, ya, va, ra, da⟩ := (show ObjOk X.prog X.w H s.heap a (.dK kvs) from I.hok a _ ea)
  obtain ⟨_, yb, vb, rb, db⟩ := (show ObjOk X.prog X.w H s.heap b (.dK kvs) from I.hok b _ eb)
  have hl : va.length = vb.length := by rw [← ra.length, ← rb.length]
  exact PySem.W.keq_eq (knd := mixKind X.prog X.w) (r := true) ya yb da db hu (fun _ => hits_ref rb ra fun p hp => ⟨val_nodup nd p hp, fl p hp⟩) (fin_bl I q (by simp [hl]))
end
end DT
namespace DT
open PySem PySem.Spec PyProof.Rows L2
section
variable {X : Cx}
/-- d.update(e) of two dicts -/
def rUpdate : V → List V → Hp → VK → Prop := fun x xs H Q => ∃ (d o : Addr) (kvs more : List (Key × V)), x = .ref d ∧ xs = [.ref o] ∧ d ≠ o ∧ H d = some (.dK kvs) ∧ H o = some (.dK more) ∧ kvs.length + more.length ≤ sizeLine ∧ Q .non (upd H d (.dK (mergeK kvs more)))
theorem mt_update : MtR X "dict.update" rUpdate := by
  intro pins s σ H x xs v us Q I rx rv h
  obtain ⟨d, o, kvs, more, rfl, rfl, hne, hd, ho, hz, q⟩ := h
  cases rx
  obtain ⟨u, rfl, ru⟩ := rv.one
  cases ru
  obtain ⟨_, y1, va, ra, da⟩ := dk_of I.hok hd
  obtain ⟨_, y2, vb, rb, db⟩ := dk_of I.hok ho
  have hz2 : va.length + vb.length ≤ sizeLine := by rw [← ra.length, ← rb.length]; exact hz
  refine call_meetsIn PySem.F.slot_dict_update da.typeIs PySem.F.entry_dict_update (PySem.F.args_dict_update_2 _ _) (meets_dict_update (mixKind X.prog X.w) d o hne y2) ⟨va, vb, da, db, hz2, fun h' hd' ho' hs => ?_⟩
  have hlen : (mergeK kvs more).length ≤ sizeLine := Nat.le_trans (length_mergeK more kvs) (by omega)
  have he : ∃ q, h'.get? d = some q := by
    obtain ⟨ob, _, _, hob, _⟩ := hd'
    exact ⟨ob, hob⟩
  exact ⟨V.non, _, d_write (t' := s.toks) I (by rw [hd]; exact trivial) hs he (dk_new hlen y1 (rb.merge ra) hd'), rfl, q⟩
end
end DT

namespace QC
open PySem PySem.Spec PyProof.Rows L2
def rLenQ (K : PySem.W.Frag) : List V → Hp → VK → Prop := fun xs H Q => ∃ p ys, xs = [.ref p] ∧ (SqL K H p ys ∨ SqT K H p ys) ∧ Q (.int ys.length) H
theorem call_lenQ {X : Cx} : CallR X (.builtin "len") (rLenQ X.K) := call_len_seq
end QC

namespace L
open PySem PySem.Spec PyProof.Rows L2 Z
def topS (i : Nat) : Stmt := PySem.Challenge.pw_papersat_k32_trimmed_lists.main.body.getD i (.Pass ⟨0, 0, 0, 0⟩)
abbrev s_trim : Stmt := topS 1
abbrev N_trim : List Str := ["steps", "needed", "number", "used", "numbers", "places", "place"]
theorem sc_trim : FnScope N_trim ["steps"] (defScope s_trim) := ⟨rfl, rfl, rfl, by decide +kernel, rfl, by decide +kernel, by decide +kernel⟩
abbrev s_used_numbers : Stmt := topS 2
abbrev N_used_numbers : List Str := ["step", "kind", "_", "details", "first", "strikes", "number"]
theorem sc_used_numbers : FnScope N_used_numbers ["step"] (defScope s_used_numbers) := ⟨rfl, rfl, rfl, by decide +kernel, rfl, by decide +kernel, by decide +kernel⟩
abbrev s_renumbered : Stmt := topS 3
abbrev N_renumbered : List Str := ["step", "places", "kind", "clause", "details", "first", "strikes", "moved", "literal", "number"]
theorem sc_renumbered : FnScope N_renumbered ["step", "places"] (defScope s_renumbered) := ⟨rfl, rfl, rfl, by decide +kernel, rfl, by decide +kernel, by decide +kernel⟩
abbrev s_Log_init : Stmt := inClass (topS 5) 0
abbrev N_Log_init : List Str := ["self"]
theorem sc_Log_init : FnScope N_Log_init ["self"] (defScope s_Log_init) := ⟨rfl, rfl, rfl, by decide +kernel, rfl, by decide +kernel, by decide +kernel⟩
abbrev s_Log_write : Stmt := inClass (topS 5) 1
abbrev N_Log_write : List Str := ["self", "kind", "clause", "details"]
theorem sc_Log_write : FnScope N_Log_write ["self", "kind", "clause", "details"] (defScope s_Log_write) := ⟨rfl, rfl, rfl, by decide +kernel, rfl, by decide +kernel, by decide +kernel⟩
abbrev s_Log_take : Stmt := inClass (topS 5) 2
abbrev N_Log_take : List Str := ["self", "steps", "before", "moved", "step"]
theorem sc_Log_take : FnScope N_Log_take ["self", "steps"] (defScope s_Log_take) := ⟨rfl, rfl, rfl, by decide +kernel, rfl, by decide +kernel, by decide +kernel⟩
abbrev s_Log_step : Stmt := inClass (topS 5) 3
abbrev N_Log_step : List Str := ["self", "number"]
theorem sc_Log_step : FnScope N_Log_step ["self", "number"] (defScope s_Log_step) := ⟨rfl, rfl, rfl, by decide +kernel, rfl, by decide +kernel, by decide +kernel⟩
abbrev s_Log_clause_at : Stmt := inClass (topS 5) 4
abbrev N_Log_clause_at : List Str := ["self", "number"]
theorem sc_Log_clause_at : FnScope N_Log_clause_at ["self", "number"] (defScope s_Log_clause_at) := ⟨rfl, rfl, rfl, by decide +kernel, rfl, by decide +kernel, by decide +kernel⟩
abbrev s_Log_all_steps : Stmt := inClass (topS 5) 5
abbrev N_Log_all_steps : List Str := ["self"]
theorem sc_Log_all_steps : FnScope N_Log_all_steps ["self"] (defScope s_Log_all_steps) := ⟨rfl, rfl, rfl, by decide +kernel, rfl, by decide +kernel, by decide +kernel⟩
abbrev s_Log_len : Stmt := inClass (topS 5) 6
abbrev N_Log_len : List Str := ["self"]
theorem sc_Log_len : FnScope N_Log_len ["self"] (defScope s_Log_len) := ⟨rfl, rfl, rfl, by decide +kernel, rfl, by decide +kernel, by decide +kernel⟩
abbrev s_Log_iter : Stmt := inClass (topS 5) 7
abbrev N_Log_iter : List Str := ["self"]
theorem sc_Log_iter : FnScope N_Log_iter ["self"] (defScope s_Log_iter) := ⟨rfl, rfl, rfl, by decide +kernel, rfl, by decide +kernel, by decide +kernel⟩
abbrev s_moved : Stmt := topS 6
abbrev N_moved : List Str := ["step", "distance", "kind", "clause", "details", "first", "strikes", "moved", "literal", "number"]
theorem sc_moved : FnScope N_moved ["step", "distance"] (defScope s_moved) := ⟨rfl, rfl, rfl, by decide +kernel, rfl, by decide +kernel, by decide +kernel⟩
abbrev s_pool : Stmt := topS 8
abbrev N_pool : List Str := ["_law_script", "_law_k", "_law_cell", "_law_spare"]
theorem sc_pool : FnScope N_pool ["_law_script", "_law_k"] (defScope s_pool) := ⟨rfl, rfl, rfl, by decide +kernel, rfl, by decide +kernel, by decide +kernel⟩
abbrev s_take : Stmt := topS 9
abbrev N_take : List Str := ["_law_pool_here", "_law_size", "_law_k", "_law_cell", "_law_mixed"]
theorem sc_take : FnScope N_take ["_law_pool_here", "_law_size"] (defScope s_take) := ⟨rfl, rfl, rfl, by decide +kernel, rfl, by decide +kernel, by decide +kernel⟩
abbrev s_whole : Stmt := topS 10
abbrev N_whole : List Str := ["_law_value"]
theorem sc_whole : FnScope N_whole ["_law_value"] (defScope s_whole) := ⟨rfl, rfl, rfl, by decide +kernel, rfl, by decide +kernel, by decide +kernel⟩
abbrev s_alike : Stmt := topS 11
abbrev N_alike : List Str := ["_law_told", "_law_due_here", "_law_k"]
theorem sc_alike : FnScope N_alike ["_law_told", "_law_due_here"] (defScope s_alike) := ⟨rfl, rfl, rfl, by decide +kernel, rfl, by decide +kernel, by decide +kernel⟩
abbrev s_alike_lists : Stmt := topS 12
abbrev N_alike_lists : List Str := ["_law_told", "_law_due_here"]
theorem sc_alike_lists : FnScope N_alike_lists ["_law_told", "_law_due_here"] (defScope s_alike_lists) := ⟨rfl, rfl, rfl, by decide +kernel, rfl, by decide +kernel, by decide +kernel⟩
abbrev s_literal : Stmt := topS 13
abbrev N_literal : List Str := ["_law_pool_here"]
theorem sc_literal : FnScope N_literal ["_law_pool_here"] (defScope s_literal) := ⟨rfl, rfl, rfl, by decide +kernel, rfl, by decide +kernel, by decide +kernel⟩
abbrev s_literals : Stmt := topS 14
abbrev N_literals : List Str := ["_law_pool_here", "_law_found", "_law_k", "_law_literal_here", "_law_n"]
theorem sc_literals : FnScope N_literals ["_law_pool_here"] (defScope s_literals) := ⟨rfl, rfl, rfl, by decide +kernel, rfl, by decide +kernel, by decide +kernel⟩
abbrev s_step : Stmt := topS 15
abbrev N_step : List Str := ["_law_pool_here", "_law_steps", "_law_k", "_law_pick", "_law_line", "_law_first", "_law_strikes", "_law_j", "_law_one", "_law_two", "_law_others"]
theorem sc_step : FnScope N_step ["_law_pool_here", "_law_steps"] (defScope s_step) := ⟨rfl, rfl, rfl, by decide +kernel, rfl, by decide +kernel, by decide +kernel⟩
abbrev s_due : Stmt := topS 16
abbrev N_due : List Str := ["_law_steps", "_law_last", "_law_wanted", "_law_k", "_law_details", "_law_pair", "_law_kept", "_law_out", "_law_kind", "_law_clause"]
theorem sc_due : FnScope N_due ["_law_steps"] (defScope s_due) := ⟨rfl, rfl, rfl, by decide +kernel, rfl, by decide +kernel, by decide +kernel⟩
abbrev s_Lmoved : Stmt := topS 17
abbrev N_Lmoved : List Str := ["_law_step_here", "_law_start", "_law_pair"]
theorem sc_Lmoved : FnScope N_Lmoved ["_law_step_here", "_law_start"] (defScope s_Lmoved) := ⟨rfl, rfl, rfl, by decide +kernel, rfl, by decide +kernel, by decide +kernel⟩
abbrev s_trims : Stmt := topS 18
abbrev N_trims : List Str := ["_law_steps", "_law_due_here", "_law_passed", "_law_told", "_law_again"]
theorem sc_trims : FnScope N_trims ["_law_steps"] (defScope s_trims) := ⟨rfl, rfl, rfl, by decide +kernel, rfl, by decide +kernel, by decide +kernel⟩
abbrev s_keeps : Stmt := topS 19
abbrev N_keeps : List Str := ["_law_log", "_law_steps", "_law_told", "_law_k"]
theorem sc_keeps : FnScope N_keeps ["_law_log", "_law_steps"] (defScope s_keeps) := ⟨rfl, rfl, rfl, by decide +kernel, rfl, by decide +kernel, by decide +kernel⟩
abbrev s_takes : Stmt := topS 20
abbrev N_takes : List Str := ["_law_log", "_law_before", "_law_steps", "_law_passed", "_law_told", "_law_step_here"]
theorem sc_takes : FnScope N_takes ["_law_log", "_law_before", "_law_steps"] (defScope s_takes) := ⟨rfl, rfl, rfl, by decide +kernel, rfl, by decide +kernel, by decide +kernel⟩
abbrev s_law : Stmt := topS 21
abbrev N_law : List Str := ["_law_script", "_law_pool_here", "_law_steps", "_law_k", "_law_mine", "_law_some", "_law_log", "_law_twin", "_law_told", "_law_due_here", "_law_step_here"]
theorem sc_law : FnScope N_law ["_law_script"] (defScope s_law) := ⟨rfl, rfl, rfl, by decide +kernel, rfl, by decide +kernel, by decide +kernel⟩
structure Txt (K : PySem.W.Frag) (mg : Str → Option Value) : Type where
  f_trim : Addr
  fd_trim : FuncData
  F_trim : Fun K "trim" "trim" s_trim f_trim fd_trim
  b_trim : Binds K fd_trim ["steps"] []
  g_trim : mg "trim" = some (.ref f_trim)
  f_used_numbers : Addr
  fd_used_numbers : FuncData
  F_used_numbers : Fun K "_used_numbers" "_used_numbers" s_used_numbers f_used_numbers fd_used_numbers
  b_used_numbers : Binds K fd_used_numbers ["step"] []
  g_used_numbers : mg "_used_numbers" = some (.ref f_used_numbers)
  f_renumbered : Addr
  fd_renumbered : FuncData
  F_renumbered : Fun K "_renumbered" "_renumbered" s_renumbered f_renumbered fd_renumbered
  b_renumbered : Binds K fd_renumbered ["step", "places"] []
  g_renumbered : mg "_renumbered" = some (.ref f_renumbered)
  f_Log_init : Addr
  fd_Log_init : FuncData
  F_Log_init : Fun K "__init__" "Log.__init__" s_Log_init f_Log_init fd_Log_init
  b_Log_init : Binds K fd_Log_init ["self"] []
  f_Log_write : Addr
  fd_Log_write : FuncData
  F_Log_write : Fun K "write" "Log.write" s_Log_write f_Log_write fd_Log_write
  b_Log_write : Binds K fd_Log_write ["self", "kind", "clause", "details"] []
  f_Log_take : Addr
  fd_Log_take : FuncData
  F_Log_take : Fun K "take" "Log.take" s_Log_take f_Log_take fd_Log_take
  b_Log_take : Binds K fd_Log_take ["self", "steps"] []
  f_Log_step : Addr
  fd_Log_step : FuncData
  F_Log_step : Fun K "step" "Log.step" s_Log_step f_Log_step fd_Log_step
  b_Log_step : Binds K fd_Log_step ["self", "number"] []
  f_Log_clause_at : Addr
  fd_Log_clause_at : FuncData
  F_Log_clause_at : Fun K "clause_at" "Log.clause_at" s_Log_clause_at f_Log_clause_at fd_Log_clause_at
  b_Log_clause_at : Binds K fd_Log_clause_at ["self", "number"] []
  f_Log_all_steps : Addr
  fd_Log_all_steps : FuncData
  F_Log_all_steps : Fun K "all_steps" "Log.all_steps" s_Log_all_steps f_Log_all_steps fd_Log_all_steps
  b_Log_all_steps : Binds K fd_Log_all_steps ["self"] []
  f_Log_len : Addr
  fd_Log_len : FuncData
  F_Log_len : Fun K "__len__" "Log.__len__" s_Log_len f_Log_len fd_Log_len
  b_Log_len : Binds K fd_Log_len ["self"] []
  f_Log_iter : Addr
  fd_Log_iter : FuncData
  F_Log_iter : Fun K "__iter__" "Log.__iter__" s_Log_iter f_Log_iter fd_Log_iter
  b_Log_iter : Binds K fd_Log_iter ["self"] []
  f_moved : Addr
  fd_moved : FuncData
  F_moved : Fun K "_moved" "_moved" s_moved f_moved fd_moved
  b_moved : Binds K fd_moved ["step", "distance"] []
  g_moved : mg "_moved" = some (.ref f_moved)
  f_pool : Addr
  fd_pool : FuncData
  F_pool : Fun K "_law_pool" "_law_pool" s_pool f_pool fd_pool
  b_pool : Binds K fd_pool ["_law_script", "_law_k"] []
  g_pool : mg "_law_pool" = some (.ref f_pool)
  f_take : Addr
  fd_take : FuncData
  F_take : Fun K "_law_take" "_law_take" s_take f_take fd_take
  b_take : Binds K fd_take ["_law_pool_here", "_law_size"] []
  g_take : mg "_law_take" = some (.ref f_take)
  f_whole : Addr
  fd_whole : FuncData
  F_whole : Fun K "_law_whole" "_law_whole" s_whole f_whole fd_whole
  b_whole : Binds K fd_whole ["_law_value"] []
  g_whole : mg "_law_whole" = some (.ref f_whole)
  f_alike : Addr
  fd_alike : FuncData
  F_alike : Fun K "_law_alike" "_law_alike" s_alike f_alike fd_alike
  b_alike : Binds K fd_alike ["_law_told", "_law_due_here"] []
  g_alike : mg "_law_alike" = some (.ref f_alike)
  f_alike_lists : Addr
  fd_alike_lists : FuncData
  F_alike_lists : Fun K "_law_alike_lists" "_law_alike_lists" s_alike_lists f_alike_lists fd_alike_lists
  b_alike_lists : Binds K fd_alike_lists ["_law_told", "_law_due_here"] []
  g_alike_lists : mg "_law_alike_lists" = some (.ref f_alike_lists)
  f_literal : Addr
  fd_literal : FuncData
  F_literal : Fun K "_law_literal" "_law_literal" s_literal f_literal fd_literal
  b_literal : Binds K fd_literal ["_law_pool_here"] []
  g_literal : mg "_law_literal" = some (.ref f_literal)
  f_literals : Addr
  fd_literals : FuncData
  F_literals : Fun K "_law_literals" "_law_literals" s_literals f_literals fd_literals
  b_literals : Binds K fd_literals ["_law_pool_here"] []
  g_literals : mg "_law_literals" = some (.ref f_literals)
  f_step : Addr
  fd_step : FuncData
  F_step : Fun K "_law_step" "_law_step" s_step f_step fd_step
  b_step : Binds K fd_step ["_law_pool_here", "_law_steps"] []
  g_step : mg "_law_step" = some (.ref f_step)
  f_due : Addr
  fd_due : FuncData
  F_due : Fun K "_law_due" "_law_due" s_due f_due fd_due
  b_due : Binds K fd_due ["_law_steps"] []
  g_due : mg "_law_due" = some (.ref f_due)
  f_Lmoved : Addr
  fd_Lmoved : FuncData
  F_Lmoved : Fun K "_law_moved" "_law_moved" s_Lmoved f_Lmoved fd_Lmoved
  b_Lmoved : Binds K fd_Lmoved ["_law_step_here", "_law_start"] []
  g_Lmoved : mg "_law_moved" = some (.ref f_Lmoved)
  f_trims : Addr
  fd_trims : FuncData
  F_trims : Fun K "_law_trims" "_law_trims" s_trims f_trims fd_trims
  b_trims : Binds K fd_trims ["_law_steps"] []
  g_trims : mg "_law_trims" = some (.ref f_trims)
  f_keeps : Addr
  fd_keeps : FuncData
  F_keeps : Fun K "_law_keeps" "_law_keeps" s_keeps f_keeps fd_keeps
  b_keeps : Binds K fd_keeps ["_law_log", "_law_steps"] []
  g_keeps : mg "_law_keeps" = some (.ref f_keeps)
  f_takes : Addr
  fd_takes : FuncData
  F_takes : Fun K "_law_takes" "_law_takes" s_takes f_takes fd_takes
  b_takes : Binds K fd_takes ["_law_log", "_law_before", "_law_steps"] []
  g_takes : mg "_law_takes" = some (.ref f_takes)
  f_law : Addr
  fd_law : FuncData
  F_law : Fun K "law" "law" s_law f_law fd_law
  b_law : Binds K fd_law ["_law_script"] []
  g_law : mg "law" = some (.ref f_law)
  C_Log : Addr
  c_Log : mg "Log" = some (.ref C_Log)
  cl_Log : Cls K C_Log
  mk_Log : Mk K C_Log f_Log_init
  n_Log__steps : NoAttr K C_Log "_steps"
  M_Log_init : Meth K C_Log "__init__" f_Log_init
  M_Log_write : Meth K C_Log "write" f_Log_write
  M_Log_take : Meth K C_Log "take" f_Log_take
  M_Log_step : Meth K C_Log "step" f_Log_step
  M_Log_clause_at : Meth K C_Log "clause_at" f_Log_clause_at
  M_Log_all_steps : Meth K C_Log "all_steps" f_Log_all_steps
  M_Log_len : Meth K C_Log "__len__" f_Log_len
  M_Log_iter : Meth K C_Log "__iter__" f_Log_iter
  ln_Log : OWN.LnC K C_Log f_Log_len
  it_Log : OWN.ItB K C_Log f_Log_iter f_Log_len
  m_len : mg "len" = none
  m_int : mg "int" = none
  m_abs : mg "abs" = none
  m_isinstance : mg "isinstance" = none
  m_range : mg "range" = none
  m_bool : mg "bool" = none
  m_str : mg "str" = none
  m_list : mg "list" = none
  m_tuple : mg "tuple" = none
  m_sorted : mg "sorted" = none
  m_enumerate : mg "enumerate" = none
  m_reversed : mg "reversed" = none
  m_iter : mg "iter" = none
end L

namespace L
open PySem PySem.Spec PyProof.Rows L2 Z
section
variable {P : Program} {w : World} {K : PySem.W.Frag} {mg : Str → Option Value} {base : Heap}
def spPool (K : PySem.W.Frag) : Sp := fun vs H Q _ => ∃ (a : Addr) (ns : List Int) (k : Int), vs = [.ref a, .int k] ∧ SqL K H a (ns.map V.int) ∧ ns.length ≤ 1000 ∧ 0 ≤ k ∧ k < 2 ^ 62 ∧ ∀ q o, H q = none → IsPool o → Q (.ref q) (upd H q o)
def spTake : Sp := fun vs H Q _ => ∃ (q : Addr) (o : HO) (n : Int), vs = [.ref q, .int n] ∧ H q = some o ∧ IsPool o ∧ 0 < n ∧ n < 1073741824 ∧ ∀ r o', 0 ≤ r → r < n → IsPool o' → Q (.int r) (upd H q o')
theorem ok_take (T : Txt K mg) : FnOk P w K mg base CX0 1 T.f_take T.fd_take ["_law_pool_here", "_law_size"] spTake := by
  refine T.F_take.ok sc_take (fun vs H Q E h => ?_) (fun cdv A outer s H vs Q E hr h => ?_)
  · obtain ⟨q, o, n, rfl, _⟩ := h
    rfl
  · obtain ⟨q, o, n, rfl, ho, ⟨c, k, b, s', rfl⟩, hn, hn2, hq⟩ := h
    refine ⟨_, (pss_cons (ps_set (i := 2) sc_take.nd rfl (.inl rfl) (pe_ix ix_list (pv 0) pe_int (fun _ _ => rfl)))
 (pss_cons (ps_asg (pe_op op_add (pv 2) pe_int) (pg_sub (pv 0) pe_int set_list))
 (pss_cons (ps_set (i := 3) sc_take.nd rfl (.inl rfl) (pe_ix ix_list (pv 0) pe_int (fun _ _ => rfl)))
 (pss_cons (ps_if (PW.pt (pw_and (pt_val (pe_ix ix_list (pv 0) pe_int (fun _ _ => rfl))) (pw_and1 (pt_cmpR op_gt (pv 3) pe_int (nomark _))))) (pss_cons (ps_asg (pe_op op_fdiv (pv 3) (pv 1)) (pg_sub (pv 0) pe_int set_list))
 (pss_one (ps_ret (pe_op op_mod (pe_callTy call_int1 (by rfl) T.m_int (by decide +kernel) (pa_cons (pv 3) pa_nil)) (pv 1))))) pss_nil)
 (pss_cons (ps_if (pt_val (pe_ix ix_list (pv 0) pe_int (fun _ _ => rfl))) (pss_one (ps_set (i := 3) sc_take.nd rfl (.inl rfl) (pe_ix ix_list (pv 0) pe_int (fun _ _ => rfl)))) pss_nil)
 (pss_cons (ps_set (i := 4) sc_take.nd rfl (.inl rfl) (pe_op op_mod (pe_callTy call_int1 (by rfl) T.m_int (by decide +kernel) (pa_cons (pe_op op_add (pe_op op_add (pv 3) (pe_op op_mul pe_int (pv 2))) pe_int) pa_nil)) pe_int))
 (pss_cons (ps_set (i := 4) sc_take.nd rfl (.inl rfl) (pe_op op_mod (pe_callTy call_int1 (by rfl) T.m_int (by decide +kernel) (pa_cons (pe_op op_mul (pv 4) (pe_op op_add (pv 4) pe_int)) pa_nil)) pe_int))
 (pss_cons (ps_set (i := 4) sc_take.nd rfl (.inl rfl) (pe_op op_mod (pe_callTy call_int1 (by rfl) T.m_int (by decide +kernel) (pa_cons (pe_op op_add (pe_op op_mul (pv 4) (pe_op op_add (pv 4) pe_int)) (pe_op op_mul pe_int (pv 2))) pa_nil)) pe_int))
 (pss_one (ps_ret (pe_op op_mod (pe_callTy call_int1 (by rfl) T.m_int (by decide +kernel) (pa_cons (pe_op op_fdiv (pv 4) pe_int) pa_nil)) (pv 1)))))))))))), ?_⟩
    refine Z.w_start (σ' := [some (.ref q), some (.int n), none, none, none]) rfl ?_
    walk_at "w"
    cases b with
    | true =>
      walk_at "w"
      walk_at "wi"
      all_goals walk_at "w"
      all_goals exact hq _ _ (Int.emod_nonneg _ (by omega)) (Int.emod_lt_of_pos _ hn) ⟨_, _, _, _, rfl⟩
    | false =>
      walk_at "w"
      all_goals exact hq _ _ (Int.emod_nonneg _ (by omega)) (Int.emod_lt_of_pos _ hn) ⟨_, _, _, _, rfl⟩
theorem ok_pool (T : Txt K mg) : FnOk P w K mg base CX0 1 T.f_pool T.fd_pool ["_law_script", "_law_k"] (spPool K) := by
  refine T.F_pool.ok sc_pool (fun vs H Q E h => ?_) (fun cdv A outer s H vs Q E hr h => ?_)
  · obtain ⟨a, ns, k, rfl, _⟩ := h
    rfl
  · obtain ⟨a, ns, k, rfl, hS, hl, hk, hk2, hq⟩ := h
    refine ⟨_, (pss_cons (ps_set (i := 2) sc_pool.nd rfl (.inl rfl) (pe_op op_add (pe_op op_mul pe_int (pv 1)) pe_int))
 (pss_cons (ps_set (i := 3) sc_pool.nd rfl (.inl rfl) (pe_op op_add (pe_op op_mul pe_int (pv 1)) pe_int))
 (pss_cons (ps_if (pt_cmpR op_lt (pv 1) (pe_callB call_len_seq (by rfl) T.m_len (by decide +kernel) (pa_cons (pv 0) pa_nil)) (nomark _)) (pss_one (ps_set (i := 2) sc_pool.nd rfl (.inl rfl) (pe_ix ix_list (pv 0) (pv 1) (fun _ _ => rfl)))) pss_nil)
 (pss_cons (ps_if (pt_cmpR op_lt (pe_op op_add (pv 1) pe_int) (pe_callB call_len_seq (by rfl) T.m_len (by decide +kernel) (pa_cons (pv 0) pa_nil)) (nomark _)) (pss_one (ps_set (i := 3) sc_pool.nd rfl (.inl rfl) (pe_ix ix_list (pv 0) (pe_op op_add (pv 1) pe_int) (fun _ _ => rfl)))) pss_nil)
 (pss_one (ps_ret (pe_lst (pa_cons (pv 2) (pa_cons pe_int (pa_cons (pe_cmpR op_ge (pv 2) (pe_op op_pow pe_int pe_int) (nomark _)) (pa_cons (pv 3) pa_nil))))))))))), ?_⟩
    refine Z.w_start (σ' := [some (.ref a), some (.int k), none, none]) rfl ?_
    by_cases h1 : k < ns.length
    · obtain ⟨z1, a1, _⟩ := pick hk h1
      by_cases h2 : k + 1 < ns.length
      · obtain ⟨z2, a2, _⟩ := pick (by omega) h2
        walk_at "w"
        exact hq _ _ (by assumption) ⟨_, _, _, _, rfl⟩
      · walk_at "w"
        exact hq _ _ (by assumption) ⟨_, _, _, _, rfl⟩
    · walk_at "w"
      exact hq _ _ (by assumption) ⟨_, _, _, _, rfl⟩
end
end L

namespace L
open PySem PySem.Spec PyProof.Rows L2 Z
section
variable {P : Program} {w : World} {K : PySem.W.Frag} {mg : Str → Option Value} {base : Heap}
def spWhole : Sp := fun vs H Q _ => ∃ i : Int, vs = [.int i] ∧ Q (.bl true) H
theorem use_whole {i : Int} {H : Hp} {Q : VK} {E : XK} (q : Q (.bl true) H) : spWhole [.int i] H Q E := ⟨i, rfl, q⟩
theorem ok_whole (T : Txt K mg) : FnOk P w K mg base CX0 1 T.f_whole T.fd_whole ["_law_value"] spWhole := by
  refine T.F_whole.ok sc_whole (fun vs H Q E h => ?_) (fun cdv A outer s H vs Q E hr h => ?_)
  · obtain ⟨i, rfl, _⟩ := h
    rfl
  · obtain ⟨i, rfl, hq⟩ := h
    refine ⟨_, (pss_one (ps_ret (pe_and (pe_callB call_isi (by rfl) T.m_isinstance (by decide +kernel) (pa_cons (pv 0) (pa_cons (pe_bltn (v := .ty "int") (by rfl) T.m_int (by decide +kernel) rfl) pa_nil))) (pe_one (pe_not (pe_callB call_isi (by rfl) T.m_isinstance (by decide +kernel) (pa_cons (pv 0) (pa_cons (pe_bltn (v := .ty "bool") (by rfl) T.m_bool (by decide +kernel) rfl) pa_nil)))))))), ?_⟩
    refine Z.w_start (σ' := [some (.int i)]) rfl ?_
    walk_at "w"
    exact hq
end
end L

namespace M
open PySem PySem.Spec PyProof.Rows L2
/-- strictly ascending by absolute values -/
def Asc (ys : List Int) : Prop := ys.Pairwise fun i j => i.natAbs < j.natAbs
theorem asc_uniq : ∀ ys zs : List Int, Asc ys → Asc zs → (∀ x, x ∈ ys ↔ x ∈ zs) → ys = zs
  | [], [], _, _, _ => rfl
  | [], z :: zs, _, _, h => absurd ((h z).mpr List.mem_cons_self) (by simp)
  | y :: ys, [], _, _, h => absurd ((h y).mp List.mem_cons_self) (by simp)
  | y :: ys, z :: zs, hy, hz, h => by
    obtain ⟨hy1, hy2⟩ := List.pairwise_cons.mp hy
    obtain ⟨hz1, hz2⟩ := List.pairwise_cons.mp hz
    have e : y = z := by
      rcases List.mem_cons.mp ((h y).mp List.mem_cons_self) with e | m
      · exact e
      · rcases List.mem_cons.mp ((h z).mpr List.mem_cons_self) with e | m2
        · exact e.symm
        · have a := hz1 y m
          have b := hy1 z m2
          omega
    subst e
    have t : ys = zs := asc_uniq ys zs hy2 hz2 fun x => by
      constructor
      · intro m
        rcases List.mem_cons.mp ((h x).mp (List.mem_cons_of_mem _ m)) with e | m2
        · have := hy1 x m
          rw [e] at this
          omega
        · exact m2
      · intro m
        rcases List.mem_cons.mp ((h x).mpr (List.mem_cons_of_mem _ m)) with e | m2
        · have := hz1 x m
          rw [e] at this
          omega
        · exact m2
    rw [t]
def Clash (ls : List Int) : Prop := ∃ l ∈ ls, -l ∈ ls
/-- the clause of a list -/
def ClOf (ls ys : List Int) : Prop := Asc ys ∧ ∀ x, x ∈ ys ↔ x ∈ ls
/-- nondecreasing and without a clash and twins -/
theorem asc_of {ys : List Int} (h : ys.Pairwise fun i j => i.natAbs ≤ j.natAbs) (hn : ys.Nodup) (hc : ¬ Clash ys) : Asc ys := by
  unfold Asc
  have h2 := h.and hn
  refine List.Pairwise.imp_of_mem ?_ h2
  intro a b ha hb ⟨h1, h3⟩
  rcases Nat.lt_or_ge a.natAbs b.natAbs with h4 | h4
  · exact h4
  · exfalso
    have : a = b ∨ a = -b := by omega
    rcases this with e | e
    · exact h3 e
    · exact hc ⟨b, hb, by rw [← e]; exact ha⟩
/-- a dict of kept ints -/
def kd (ks : List Int) : List (Key × V) := ks.map fun k => (Sum.inl k, V.bl true)
theorem kd_get (ks : List Int) (x : Int) : (valV (kd ks) (Sum.inl x)).isSome = decide (x ∈ ks) := by
  rw [← valV_any]
  unfold kd
  rw [List.any_map]
  induction ks with
  | nil => rfl
  | cons k r ih =>
    rw [List.any_cons, ih]
    simp only [Function.comp, List.mem_cons]
    by_cases h : k = x
    · subst h; simp
    · have h' : ¬ (Sum.inl k : Key) = Sum.inl x := fun z => h (Sum.inl.inj z)
      have h'' : ¬ x = k := fun z => h z.symm
      simp [h', h'']
theorem kd_keys (ks : List Int) : (kd ks).map (·.1) = ks.map Sum.inl := by
  unfold kd
  rw [List.map_map]
  rfl
theorem kd_len (ks : List Int) : (kd ks).length = ks.length := by
  unfold kd
  rw [List.length_map]
theorem kd_put (ks : List Int) (x : Int) : putK (kd ks) (Sum.inl x) (.bl true) = kd (if x ∈ ks then ks else ks ++ [x]) := by
  by_cases h : x ∈ ks
  · rw [if_pos h]
    unfold putK
    have e : (valV (kd ks) (Sum.inl x)).isSome = true := by rw [kd_get]; exact decide_eq_true h
    rw [valV_any, if_pos e]
    unfold kd
    rw [List.map_map]
    refine List.map_congr_left fun k _ => ?_
    simp only [Function.comp]
    split <;> rfl
  · rw [if_neg h, putK_new]
    · unfold kd
      rw [List.map_append]
      rfl
    · have e : (valV (kd ks) (Sum.inl x)).isSome = false := by rw [kd_get]; exact decide_eq_false h
      exact Option.isNone_iff_eq_none.mp (by rw [← Option.not_isSome, e]; rfl)
theorem inV_int (x : Int) (ls : List Int) : inV (.int x) (ls.map V.int) = decide (x ∈ ls) := by
  unfold inV
  rw [List.any_map]
  induction ls with
  | nil => rfl
  | cons k r ih =>
    rw [List.any_cons, ih]
    have e : eqV (.int k) (.int x) = decide (k = x) := by
      first | rfl | simp [eqV]
    simp only [Function.comp, e, List.mem_cons]
    by_cases h : k = x
    · subst h; simp
    · have h'' : ¬ x = k := fun z => h z.symm
      simp [h, h'']
theorem flat_ints (ls : List Int) : (ls.map V.int).all flatV = true := by
  rw [List.all_map]
  exact List.all_eq_true.mpr fun _ _ => rfl
/-- what is kept so far: the taken ones, each once, without a clash -/
def KeptI (ls : List Int) (i : Nat) (ks : List Int) : Prop := ks.Nodup ∧ (∀ x, x ∈ ks ↔ x ∈ ls.take i) ∧ ¬ Clash ks ∧ ks.length ≤ i
theorem kept_zero (ls : List Int) : KeptI ls 0 [] := ⟨List.nodup_nil, fun x => by simp, fun ⟨_, h, _⟩ => by simp at h, Nat.le_refl _⟩
theorem kept_next {ls ks : List Int} {i : Nat} {l : Int} (h : KeptI ls i ks) (hl : ls[i]? = some l) (h0 : l ≠ 0) (hc : -l ∉ ks) : KeptI ls (i + 1) (if l ∈ ks then ks else ks ++ [l]) := by
  obtain ⟨h1, h2, h3, h4⟩ := h
  have ht : ls.take (i + 1) = ls.take i ++ [l] := by rw [List.take_add_one, hl]; rfl
  by_cases hm : l ∈ ks
  · rw [if_pos hm]
    refine ⟨h1, fun x => ?_, h3, by omega⟩
    rw [ht, List.mem_append, h2 x]
    constructor
    · exact fun z => .inl z
    · rintro (z | z)
      · exact z
      · rw [List.mem_singleton.mp z]
        exact (h2 l).mp hm
  · rw [if_neg hm]
    refine ⟨?_, fun x => by rw [ht, List.mem_append, List.mem_append, h2 x], ?_, by rw [List.length_append, List.length_singleton]; omega⟩
    · rw [List.nodup_append]
      refine ⟨h1, List.nodup_cons.mpr ⟨by simp, List.nodup_nil⟩, fun a ha b hb e => ?_⟩
      rw [List.mem_singleton.mp hb] at e
      exact hm (e ▸ ha)
    · rintro ⟨x, hx, hx2⟩
      rcases List.mem_append.mp hx with a | a <;> rcases List.mem_append.mp hx2 with b | b
      · exact h3 ⟨x, a, b⟩
      · have e := List.mem_singleton.mp b
        have : x = -l := by omega
        rw [this] at a
        exact hc a
      · rw [List.mem_singleton.mp a] at b
        exact hc b
      · have e1 := List.mem_singleton.mp a
        have e2 := List.mem_singleton.mp b
        omega
end M
namespace M
open PySem PySem.Spec PyProof.Rows L2
/-- the due so far, by the sizes that were looked at -/
def DueI (ls ns : List Int) (i : Nat) (D : List Int) : Prop := Asc D ∧ (∀ x, x ∈ D ↔ x ∈ ls ∧ (x.natAbs : Int) ∈ ns.take i) ∧ D.length ≤ i
theorem due_zero (ls ns : List Int) : DueI ls ns 0 [] := ⟨List.Pairwise.nil, fun x => by simp, Nat.le_refl _⟩
theorem due_next {ls ns D : List Int} {i : Nat} {s lit : Int} (h : DueI ls ns i D) (hs : ns.Pairwise (· ≤ ·)) (hi : ns[i]? = some s) (hn : ∀ x ∈ ls, -x ∉ ls) (hl : lit ∈ ls) (ha : (lit.natAbs : Int) = s) :
    DueI ls ns (i + 1) (if lit ∈ D then D else D ++ [lit]) := by
  obtain ⟨h1, h2, h3⟩ := h
  have ht : ns.take (i + 1) = ns.take i ++ [s] := by rw [List.take_add_one, hi]; rfl
  have one : ∀ x ∈ ls, (x.natAbs : Int) = s → x = lit := by
    intro x hx e
    have : x = lit ∨ x = -lit := by omega
    rcases this with e | e
    · exact e
    · rw [e] at hx
      exact absurd hx (hn lit hl)
  have mem : ∀ x, (x ∈ ls ∧ (x.natAbs : Int) ∈ ns.take (i + 1)) ↔ (x ∈ D ∨ x = lit) := by
    intro x
    rw [ht, List.mem_append, List.mem_singleton, h2 x]
    constructor
    · rintro ⟨a, b | b⟩
      · exact .inl ⟨a, b⟩
      · exact .inr (one x a b)
    · rintro (⟨a, b⟩ | b)
      · exact ⟨a, .inl b⟩
      · rw [b]
        exact ⟨hl, .inr ha⟩
  by_cases hm : lit ∈ D
  · rw [if_pos hm]
    refine ⟨h1, fun x => ?_, by omega⟩
    rw [mem]
    constructor
    · exact .inl
    · rintro (a | a)
      · exact a
      · rw [a]
        exact hm
  · rw [if_neg hm]
    refine ⟨?_, fun x => ?_, by rw [List.length_append, List.length_singleton]; omega⟩
    · unfold Asc
      rw [List.pairwise_append]
      refine ⟨h1, List.pairwise_singleton _ _, fun x hx y hy => ?_⟩
      rw [List.mem_singleton.mp hy]
      obtain ⟨a, b⟩ := (h2 x).mp hx
      have p := hs.sublist (List.take_sublist (i + 1) ns)
      rw [ht, List.pairwise_append] at p
      have le := p.2.2 _ b s (List.mem_singleton.mpr rfl)
      have ne : (x.natAbs : Int) ≠ s := by
        intro e
        exact hm ((one x a e) ▸ hx)
      omega
    · rw [mem, List.mem_append, List.mem_singleton]
theorem due_end {ls ns D : List Int} (h : DueI ls ns ns.length D) (hp : ns.Perm (ls.map fun l : Int => (l.natAbs : Int))) : ClOf ls D := by
  refine ⟨h.1, fun x => ?_⟩
  rw [h.2.1, List.take_length]
  constructor
  · exact fun z => z.1
  · exact fun z => ⟨z, hp.mem_iff.mpr (List.mem_map.mpr ⟨x, z, rfl⟩)⟩
end M

namespace L
open PySem PySem.Spec PyProof.Rows L2 Z DT
/-! heaps: what stays -/
/-- all but lists stay -/
def Mo (H H' : Hp) : Prop := ∀ b x, (∀ l, x ≠ HO.lst l) → H b = some x → H' b = some x
/-- all but lists and dicts stay -/
def Tu (H H' : Hp) : Prop := ∀ b x, (∀ l, x ≠ HO.lst l) → (∀ l, x ≠ HO.dK l) → H b = some x → H' b = some x
section
variable {H H' H1 H2 : Hp} {p q d : Addr} {o : HO}
theorem Mo.refl (H : Hp) : Mo H H := fun _ _ _ e => e
theorem Mo.trans (a : Mo H H1) (b : Mo H1 H2) : Mo H H2 := fun c x n e => b c x n (a c x n e)
theorem Mo.of (s : Same H H') : Mo H H' := fun b x _ e => s b x e
theorem Mo.new (m : Mo H H') (h : H' p = none) : Mo H (upd H' p o) := fun b x n e => by
  rw [upd_ne (ne_of_none (m b x n e) h)]
  exact m b x n e
theorem Mo.own (m : Mo H H') (h : H p = none) : Mo H (upd H' p o) := fun b x n e => by
  rw [upd_ne (ne_of_none e h)]
  exact m b x n e
theorem Mo.lst {l : List V} (m : Mo H H') (h : H p = some (.lst l)) : Mo H (upd H' p o) := fun b x n e => by
  rw [upd_ne (fun z => by subst z; rw [h] at e; exact n _ (Option.some.inj e).symm)]
  exact m b x n e
theorem Tu.of (m : Mo H H') : Tu H H' := fun b x n _ e => m b x n e
theorem Tu.ofS (m : Same H H') : Tu H H' := fun b x _ _ e => m b x e
theorem Tu.trans (a : Tu H H1) (b : Tu H1 H2) : Tu H H2 := fun c x n n2 e => b c x n n2 (a c x n n2 e)
theorem Tu.dict {kvs : List (Key × V)} (h : H d = some (.dK kvs)) : Tu H (upd H d o) := fun b x n n2 e => by
  rw [upd_ne (fun z => by subst z; rw [h] at e; exact n2 _ (Option.some.inj e).symm)]
  exact e
def PoolAt (H : Hp) (q : Addr) : Prop := ∃ o, H q = some o ∧ IsPool o
structure PX (q : Addr) (H H' : Hp) : Prop where
  mo : Mo H H'
  pl : PoolAt H' q
  sx : ∀ b x, b ≠ q → H b = some x → H' b = some x
theorem PX.trans (a : PX q H H1) (b : PX q H1 H2) : PX q H H2 := ⟨a.1.trans b.1, b.2, fun c x n e => b.3 c x n (a.3 c x n e)⟩
theorem PoolAt.same (h : PoolAt H q) (s : Same H H') : PoolAt H' q := by
  obtain ⟨o, h1, h2⟩ := h
  exact ⟨o, s _ _ h1, h2⟩
theorem PX.same (a : PX q H H1) (b : Same H1 H2) : PX q H H2 := ⟨a.1.trans (.of b), a.2.same b, fun c x n e => b c x (a.3 c x n e)⟩
theorem PX.refl (h : PoolAt H q) : PX q H H := ⟨.refl H, h, fun _ _ _ e => e⟩
theorem PX.new (a : PX q H H1) (h : H1 p = none) : PX q H (upd H1 p o) := a.same (same_of (Same.refl _) h)
theorem PX.take (h : PoolAt H q) (hp : IsPool o) : PX q H (upd H q o) := by
  obtain ⟨o', h1, c, k, b, s, rfl⟩ := h
  exact ⟨(Mo.refl H).lst h1, ⟨o, upd_same, hp⟩, fun b x n e => by rw [upd_ne n]; exact e⟩
theorem PX.dict (a : PX q H H1) {kvs : List (Key × V)} {o2 : HO} (h : H d = none) (h1 : H1 d = some (.dK kvs)) (e : o2 = o2) : PX q H (upd H1 d o2) := by
  refine ⟨a.1.own h, ?_, fun b x n e => by rw [upd_ne (ne_of_none e h)]; exact a.3 b x n e⟩
  obtain ⟨o', h2, hp⟩ := a.2
  refine ⟨o', ?_, hp⟩
  rw [upd_ne]
  · exact h2
  · rintro rfl
    rw [h2] at h1
    obtain ⟨c, k, b, s, rfl⟩ := hp
    cases h1
theorem PX.own (h : H q = none) (a : PX q (upd H q o) H') : Same H H' := fun b x e => a.3 b x (ne_of_none e h) (by rw [upd_ne (ne_of_none e h)]; exact e)
end
section
variable {K : PySem.W.Frag} {H H' : Hp}
theorem sqT_tu {a : Addr} {xs : List V} (h : SqT K H a xs) (s : Tu H H') : SqT K H' a xs := by
  rcases h with (h | ⟨o, h⟩) | h
  · exact .inl (.inl (s _ _ (fun l e => by cases e) (fun l e => by cases e) h))
  · exact .inl (.inr ⟨o, s _ _ (fun l e => by cases e) (fun l e => by cases e) h⟩)
  · exact .inr h
theorem w_tdget {td ty : TE} {σ : L2.St} {Q : VK} (h : td σ H fun x H1 => ty σ H1 fun y H2 => ∃ a v, x = .ref a ∧ DGet H2 a y (some v) ∧ Q v H2) : tDGet td ty σ H Q := h
theorem w_tdget2 {td ty tx : TE} {σ : L2.St} {Q : VK} (h : td σ H fun x H1 => ∃ a, x = .ref a ∧ IsD H1 a ∧ ty σ H1 fun y H2 => tx σ H2 fun z H3 => ∃ o, DGet H3 a y o ∧ Q (o.getD z) H3) : tDGet2 td ty tx σ H Q := h
theorem seqIf {tt : TT} {t t' u : TS} {D : Ends} {σ : L2.St} (k : L2.St → Hp → Prop) (h : ∀ R : L2.St → Hp → Prop, (∀ σ' H', k σ' H' → R σ' H') → tIfS tt t t' { D with nx := R } σ H) (hk : ∀ σ' H', k σ' H' → u D σ' H') : tSeq (tIfS tt t t') u D σ H := h (u D) hk
theorem seqAnd {ta tb : TE} {g : TG} {u : TS} {D : Ends} {σ : L2.St} (k : V → Hp → Prop) (h : ∀ Q : VK, (∀ x H1, k x H1 → Q x H1) → tAndV ta tb σ H Q) (hk : ∀ x H1, k x H1 → g x σ H1 (u D)) : tSeq (tAsg (tAndV ta tb) g) u D σ H := h _ hk
end
end L
namespace L
open PySem PySem.Spec PyProof.Rows L2 Z DT
theorem PX.refl' {q : Addr} {H H' : Hp} (h : PX q H H') : PoolAt H' q := h.2
section
variable {P : Program} {w : World} {K : PySem.W.Frag} {mg : Str → Option Value} {base : Heap}
theorem tyx_T {H : Hp} {a : Addr} {xs : List V} (h : SqT K H a xs) : TyX K H (.ref a) (.type "tuple") := by
  rcases h with (h | ⟨o, h⟩) | ⟨o, its, n, h, c, _⟩
  · exact .base (.tup h)
  · exact .fTuple h
  · exact .kTuple h c
theorem w_isiT_T {H : Hp} {p : Addr} {xs : List V} {Q : VK} (h : SqT K H p xs) (q : Q (.bl true) H) : rIsi K [.ref p, .ty "tuple"] H Q := w_isi (.ty _) (tyx_T h) (kit_ty (by decide +kernel)) q
theorem use_takeP {q : Addr} {n : Int} {H : Hp} {Q : VK} {E : XK} (h : PoolAt H q) (h1 : 0 < n) (h2 : n < 1073741824) (hq : ∀ r H', PX q H H' → 0 ≤ r → r < n → Q (.int r) H') : spTake [.ref q, .int n] H Q E := by
  obtain ⟨o, ho, hp⟩ := id h
  exact ⟨q, o, n, rfl, ho, hp, h1, h2, fun r o' a b c => hq r _ (.take h c) a b⟩
end
end L

namespace MK
open PySem PySem.Spec
/-! steps, what is needed, trimming -/
inductive Stp where
  | oth (kind : Str) (cl det : PyData)
  | res (cl : PyData) (first : Nat) (sk : List (Int × Nat))
def skD (p : Int × Nat) : PyData := .tuple [.int p.1, .int (p.2 : Int)]
def RES : Str := "resolve"
def toD : Stp → PyData
  | .oth k c d => .tuple [.str k, c, d]
  | .res c f sk => .tuple [.str RES, c, .tuple [.int (f : Int), .tuple (sk.map skD)]]
def uses : Stp → List Nat
  | .oth _ _ _ => []
  | .res _ f sk => f :: sk.map (·.2)
def ren (p : Nat → Nat) : Stp → Stp
  | .oth k c d => .oth k c d
  | .res c f sk => .res c (p f) (sk.map fun x => (x.1, p x.2))
theorem uses_ren (p : Nat → Nat) (s : Stp) : uses (ren p s) = (uses s).map p := by
  cases s with
  | oth k c d => rfl
  | res c f sk =>
    simp only [ren, uses, List.map_cons, List.map_map]
    rfl
theorem ren_congr {p q : Nat → Nat} {s : Stp} (h : ∀ u ∈ uses s, p u = q u) : ren p s = ren q s := by
  cases s with
  | oth k c d => rfl
  | res c f sk =>
    have h1 : p f = q f := h f List.mem_cons_self
    have h2 : (sk.map fun x => (x.1, p x.2)) = sk.map fun x => (x.1, q x.2) := List.map_congr_left fun x hx => by
      rw [h x.2 (List.mem_cons_of_mem _ (List.mem_map_of_mem hx))]
    simp only [ren, h1, h2]
theorem ren_id {p : Nat → Nat} {s : Stp} (h : ∀ u ∈ uses s, p u = u) : ren p s = s := by
  rw [ren_congr (q := id) h]
  cases s with
  | oth k c d => rfl
  | res c f sk => simp [ren]
theorem ren_ren (p q : Nat → Nat) (s : Stp) : ren p (ren q s) = ren (p ∘ q) s := by
  cases s with
  | oth k c d => rfl
  | res c f sk => simp [ren]
def Ok (steps : List Stp) : Prop := ∀ (i : Nat) (s : Stp), steps[i]? = some s → ∀ u ∈ uses s, u < i
inductive Reach (steps : List Stp) : Nat → Prop where
  | last {n : Nat} : steps.length = n + 1 → Reach steps n
  | use {m u : Nat} {s : Stp} : Reach steps m → steps[m]? = some s → u ∈ uses s → Reach steps u
theorem reach_lt {steps : List Stp} (h : Ok steps) {n : Nat} (r : Reach steps n) : n < steps.length := by
  induction r with
  | last e => omega
  | use _ e hu ih =>
    have := h _ _ e _ hu
    omega
/-- the needed numbers, ascending -/
def KL (steps : List Stp) (ns : List Nat) : Prop := ns.Pairwise (· < ·) ∧ ∀ n, n ∈ ns ↔ Reach steps n
theorem asc_uniqN : ∀ {a b : List Nat}, a.Pairwise (· < ·) → b.Pairwise (· < ·) → (∀ n, n ∈ a ↔ n ∈ b) → a = b
  | [], [], _, _, _ => rfl
  | [], r :: b, _, _, h => absurd ((h r).mpr List.mem_cons_self) (by simp)
  | r :: a, [], _, _, h => absurd ((h r).mp List.mem_cons_self) (by simp)
  | r :: a, s :: b, ha, hb, h => by
    rw [List.pairwise_cons] at ha hb
    have e : r = s := by
      rcases List.mem_cons.mp ((h r).mp List.mem_cons_self) with e | h1
      · exact e
      · rcases List.mem_cons.mp ((h s).mpr List.mem_cons_self) with e | h2
        · exact e.symm
        · have k1 := hb.1 r h1
          have k2 := ha.1 s h2
          omega
    subst e
    rw [asc_uniqN ha.2 hb.2 fun x => ?_]
    constructor
    · intro hx
      rcases List.mem_cons.mp ((h x).mp (List.mem_cons_of_mem _ hx)) with e | z
      · subst e
        have := ha.1 x hx
        omega
      · exact z
    · intro hx
      rcases List.mem_cons.mp ((h x).mpr (List.mem_cons_of_mem _ hx)) with e | z
      · subst e
        have := hb.1 x hx
        omega
      · exact z
theorem kl_uniq {steps : List Stp} {a b : List Nat} (ha : KL steps a) (hb : KL steps b) : a = b := asc_uniqN ha.1 hb.1 fun n => (ha.2 n).trans (hb.2 n).symm
/-- closed, with the last one, of reached ones -/
theorem closed_reach {steps : List Stp} {P : Nat → Prop} (h1 : ∀ n, P n → Reach steps n) (h2 : ∀ n, steps.length = n + 1 → P n) (h3 : ∀ n s, P n → steps[n]? = some s → ∀ u ∈ uses s, P u) (n : Nat) : P n ↔ Reach steps n := by
  refine ⟨h1 n, fun r => ?_⟩
  induction r with
  | last e => exact h2 _ e
  | use _ e hu ih => exact h3 _ _ ih e _ hu
def d0 : Stp := .oth RES .none .none
def posn (ns : List Nat) (u : Nat) : Nat := ns.idxOf u
def trimL (steps : List Stp) (ns : List Nat) : List Stp := ns.map fun n => ren (posn ns) (steps.getD n d0)
theorem trimL_len {steps : List Stp} {ns : List Nat} : (trimL steps ns).length = ns.length := List.length_map _
theorem posn_at {ns : List Nat} (h : ns.Pairwise (· < ·)) {i : Nat} (hi : i < ns.length) : posn ns ns[i] = i := by
  have hn : ns.Nodup := h.imp fun h => Nat.ne_of_lt h
  unfold posn
  exact hn.idxOf_getElem i hi
theorem posn_lt {ns : List Nat} {u : Nat} (h : u ∈ ns) : posn ns u < ns.length := List.idxOf_lt_length_iff.mpr h
theorem at_posn {ns : List Nat} {u : Nat} (h : u ∈ ns) : ns[posn ns u]? = some u := by
  rw [List.getElem?_eq_getElem (posn_lt h)]
  exact congrArg some (List.getElem_idxOf (posn_lt h))
theorem asc_le {ns : List Nat} (h : ns.Pairwise (· < ·)) {i j : Nat} {a b : Nat} (ha : ns[i]? = some a) (hb : ns[j]? = some b) (hab : a < b) : i < j := by
  obtain ⟨h1, e1⟩ := List.getElem?_eq_some_iff.mp ha
  obtain ⟨h2, e2⟩ := List.getElem?_eq_some_iff.mp hb
  rcases Nat.lt_or_ge i j with z | z
  · exact z
  · exfalso
    rcases Nat.lt_or_eq_of_le z with z | z
    · have := List.pairwise_iff_getElem.mp h j i h2 h1 z
      omega
    · subst z
      omega
section
variable {steps : List Stp} {ns : List Nat}
theorem trimL_get {i n : Nat} (h : ns[i]? = some n) : (trimL steps ns)[i]? = some (ren (posn ns) (steps.getD n d0)) := by
  unfold trimL
  rw [List.getElem?_map, h]
  rfl
theorem steps_at (hok : Ok steps) (hk : KL steps ns) {n : Nat} (h : n ∈ ns) : steps[n]? = some (steps.getD n d0) := by
  have := reach_lt hok ((hk.2 n).mp h)
  rw [List.getElem?_eq_getElem this, List.getD_eq_getElem?_getD, List.getElem?_eq_getElem this]
  rfl
theorem trim_ok (hok : Ok steps) (hk : KL steps ns) : Ok (trimL steps ns) := by
  intro i s hs u hu
  have hi : i < ns.length := by
    have := (List.getElem?_eq_some_iff.mp hs).1
    rwa [trimL_len] at this
  have hn : ns[i]? = some ns[i] := List.getElem?_eq_getElem hi
  rw [trimL_get hn] at hs
  obtain rfl := Option.some.inj hs
  rw [uses_ren] at hu
  obtain ⟨v, hv, rfl⟩ := List.mem_map.mp hu
  have hm : ns[i] ∈ ns := List.getElem_mem hi
  have h1 := steps_at hok hk hm
  have hv2 : v ∈ ns := (hk.2 v).mpr (.use ((hk.2 _).mp hm) h1 hv)
  exact asc_le hk.1 (at_posn hv2) hn (hok _ _ h1 _ hv)
theorem last_max (hok : Ok steps) (hk : KL steps ns) {m n : Nat} (hm : steps.length = m + 1) (hn : ns.length = n + 1) : ns[n]? = some m := by
  have h1 : m ∈ ns := (hk.2 m).mpr (.last hm)
  have h2 := at_posn h1
  have h3 := posn_lt h1
  rcases Nat.lt_or_ge (posn ns m) n with z | z
  · exfalso
    have h4 : n < ns.length := by omega
    have h5 : m < ns[n] := by
      obtain ⟨q, e⟩ := List.getElem?_eq_some_iff.mp h2
      have := List.pairwise_iff_getElem.mp hk.1 (posn ns m) n h3 h4 z
      rw [e] at this
      exact this
    have h6 := reach_lt hok ((hk.2 _).mp (List.getElem_mem h4))
    omega
  · have : posn ns m = n := by omega
    rw [← this]
    exact h2
theorem trim_reach (hok : Ok steps) (hk : KL steps ns) : ∀ n, Reach steps n → Reach (trimL steps ns) (posn ns n) := by
  intro n r
  induction r with
  | @last m e =>
    have h1 : m ∈ ns := (hk.2 m).mpr (.last e)
    have h3 := posn_lt h1
    obtain ⟨k, hk2⟩ : ∃ k, ns.length = k + 1 := ⟨ns.length - 1, by omega⟩
    have h4 := last_max hok hk e hk2
    have h5 : posn ns m = k := by
      obtain ⟨q, e2⟩ := List.getElem?_eq_some_iff.mp h4
      rw [← e2]
      exact posn_at hk.1 q
    rw [h5]
    exact .last (by rw [trimL_len]; exact hk2)
  | @use m u s r e hu ih =>
    have hm : m ∈ ns := (hk.2 m).mpr r
    have h1 := trimL_get (steps := steps) (at_posn hm)
    refine .use ih h1 ?_
    rw [uses_ren]
    have h2 := steps_at hok hk hm
    rw [e] at h2
    rw [← Option.some.inj h2]
    exact List.mem_map_of_mem hu
theorem trim_kl (hok : Ok steps) (hk : KL steps ns) : KL (trimL steps ns) (List.range ns.length) := by
  refine ⟨List.pairwise_lt_range, fun n => ?_⟩
  rw [List.mem_range]
  constructor
  · intro hn
    have h1 := trim_reach hok hk ns[n] ((hk.2 _).mp (List.getElem_mem hn))
    rw [posn_at hk.1 hn] at h1
    exact h1
  · intro r
    have := reach_lt (trim_ok hok hk) r
    rwa [trimL_len] at this
theorem posn_range {n k : Nat} (h : n < k) : posn (List.range k) n = n := by
  have := posn_at (ns := List.range k) List.pairwise_lt_range (i := n) (by rw [List.length_range]; exact h)
  rwa [List.getElem_range] at this
theorem trim_trim (hok : Ok steps) (hk : KL steps ns) : trimL (trimL steps ns) (List.range ns.length) = trimL steps ns := by
  refine List.ext_getElem? fun i => ?_
  by_cases hi : i < ns.length
  · have h1 : (List.range ns.length)[i]? = some i := by rw [List.getElem?_range hi]
    rw [trimL_get h1]
    have h2 := trimL_get (steps := steps) (List.getElem?_eq_getElem hi)
    rw [h2]
    have h3 : (trimL steps ns).getD i d0 = ren (posn ns) (steps.getD ns[i] d0) := by
      rw [List.getD_eq_getElem?_getD, h2]
      rfl
    rw [h3]
    refine congrArg some (ren_id fun u hu => posn_range ?_)
    have h4 := trim_ok hok hk i _ h2 u hu
    omega
  · rw [List.getElem?_eq_none (by rw [trimL_len, List.length_range]; omega), List.getElem?_eq_none (by rw [trimL_len]; omega)]
end
/-! moved steps -/
def mv (k : Nat) (s : Stp) : Stp := ren (· + k) s
theorem ok_app {a b : List Stp} (ha : Ok a) (hb : Ok b) : Ok (a ++ b.map (mv a.length)) := by
  intro i s hs u hu
  rcases Nat.lt_or_ge i a.length with h | h
  · rw [List.getElem?_append_left h] at hs
    exact ha i s hs u hu
  · rw [List.getElem?_append_right h, List.getElem?_map] at hs
    cases e : b[i - a.length]? with
    | none => rw [e] at hs; cases hs
    | some t =>
      rw [e] at hs
      obtain rfl := Option.some.inj hs
      unfold mv at hu
      rw [uses_ren] at hu
      obtain ⟨v, hv, rfl⟩ := List.mem_map.mp hu
      have := hb _ _ e _ hv
      show v + a.length < i
      omega
theorem ok_take {a : List Stp} (h : Ok a) (n : Nat) : Ok (a.take n) := by
  intro i s hs u hu
  rw [List.getElem?_take] at hs
  split at hs
  · exact h i s hs u hu
  · cases hs
theorem ok_snoc {a : List Stp} {s : Stp} (h : Ok a) (hs : ∀ u ∈ uses s, u < a.length) : Ok (a ++ [s]) := by
  intro i t ht u hu
  rcases Nat.lt_or_ge i a.length with z | z
  · rw [List.getElem?_append_left z] at ht
    exact h i t ht u hu
  · rw [List.getElem?_append_right z] at ht
    have : i = a.length := by
      rcases Nat.lt_or_ge 0 (i - a.length) with y | y
      · rw [List.getElem?_eq_none (by simp; omega)] at ht
        cases ht
      · omega
    subst this
    simp at ht
    subst ht
    exact hs u hu
theorem ok_nil : Ok [] := fun i s h => by simp at h
/-! sets as lists without twins -/
def addAll (ks us : List Int) : List Int := us.foldl (fun ks x => if x ∈ ks then ks else ks ++ [x]) ks
theorem addAll_cons (ks us : List Int) (x : Int) : addAll ks (x :: us) = addAll (if x ∈ ks then ks else ks ++ [x]) us := rfl
theorem addAll_mem : ∀ {us ks : List Int} {y : Int}, y ∈ addAll ks us ↔ y ∈ ks ∨ y ∈ us
  | [], ks, y => by simp [addAll]
  | x :: us, ks, y => by
    rw [addAll_cons, addAll_mem]
    by_cases h : x ∈ ks
    · rw [if_pos h, List.mem_cons]
      constructor
      · rintro (h1 | h1)
        · exact .inl h1
        · exact .inr (.inr h1)
      · rintro (h1 | h1 | h1)
        · exact .inl h1
        · exact .inl (h1 ▸ h)
        · exact .inr h1
    · rw [if_neg h, List.mem_append, List.mem_singleton, List.mem_cons, or_assoc]
theorem addAll_nodup : ∀ {us ks : List Int}, ks.Nodup → (addAll ks us).Nodup
  | [], ks, h => h
  | x :: us, ks, h => by
    rw [addAll_cons]
    refine addAll_nodup ?_
    by_cases hx : x ∈ ks
    · rw [if_pos hx]; exact h
    · rw [if_neg hx]
      refine List.nodup_append.mpr ⟨h, by simp, fun a ha b hb e => ?_⟩
      rw [List.mem_singleton.mp hb] at e
      exact hx (e ▸ ha)
theorem addAll_snoc (ks us : List Int) (x : Int) : addAll ks (us ++ [x]) = if x ∈ addAll ks us then addAll ks us else addAll ks us ++ [x] := by
  unfold addAll
  rw [List.foldl_append]
  rfl
theorem nodup_len {n : Nat} : ∀ {ks : List Int}, ks.Nodup → (∀ x ∈ ks, 0 ≤ x ∧ x < n) → ks.length ≤ n := by
  intro ks hn hb
  have hs : ks.length = (ks.map Int.toNat).length := (List.length_map _).symm
  rw [hs]
  have h1 : (ks.map Int.toNat).Nodup := by
    refine List.pairwise_map.mpr (List.Pairwise.imp_of_mem ?_ hn)
    intro a b ha hb2 hne e
    have := hb a ha
    have := hb b hb2
    omega
  have h2 : (ks.map Int.toNat) ⊆ List.range n := fun x hx => by
    obtain ⟨y, hy, rfl⟩ := List.mem_map.mp hx
    have := hb y hy
    exact List.mem_range.mpr (by omega)
  have h3 := List.Nodup.length_le_of_subset h1 h2
  rwa [List.length_range] at h3
end MK

namespace L
open PySem PySem.Spec PyProof.Rows L2 Z M DT MK
/-! data: None, numbers, texts, tuples -/
mutual
def gd : PyData → Bool
  | .none => true
  | .int _ => true
  | .str _ => true
  | .tuple xs => decide (xs.length ≤ 1000) && gdAll xs
  | .bool _ => false
  | .list _ => false
  | .dict _ => false
def gdAll : List PyData → Bool
  | [] => true
  | x :: xs => gd x && gdAll xs
end
theorem gdAll_mem : ∀ {xs : List PyData} {x : PyData}, gdAll xs = true → x ∈ xs → gd x = true
  | y :: ys, x, h, hx => by
    unfold gdAll at h
    rw [Bool.and_eq_true] at h
    rcases List.mem_cons.mp hx with e | m
    · rw [e]; exact h.1
    · exact gdAll_mem h.2 m
theorem gdAll_of : ∀ {xs : List PyData}, (∀ x ∈ xs, gd x = true) → gdAll xs = true
  | [], _ => rfl
  | y :: ys, h => by
    unfold gdAll
    rw [h y List.mem_cons_self, gdAll_of fun x hx => h x (List.mem_cons_of_mem _ hx)]
    rfl
section
variable {K : PySem.W.Frag} {H H' : Hp}
mutual
theorem dp_tu : ∀ (d : PyData) (v : V), gd d = true → Dp K H v d → Tu H H' → Dp K H' v d
  | .none, v, _, h, _ => by cases h; exact .non
  | .int i, v, _, h, _ => by cases h; exact .int i
  | .str x, v, _, h, _ => by cases h; exact .str x
  | .tuple xs, v, g, h, s => by
    cases h with
    | tup h1 h2 => exact .tup (sqT_tu h1 s) (dpAll_tu xs _ (by unfold gd at g; rw [Bool.and_eq_true] at g; exact g.2) h2 s)
  | .bool _, v, g, _, _ => by cases g
  | .list _, v, g, _, _ => by cases g
  | .dict _, v, g, _, _ => by cases g
theorem dpAll_tu : ∀ (ds : List PyData) (vs : List V), gdAll ds = true → DpAll K H vs ds → Tu H H' → DpAll K H' vs ds
  | [], vs, _, h, _ => by cases h; exact .nil
  | d :: ds, vs, g, h, s => by
    unfold gdAll at g
    rw [Bool.and_eq_true] at g
    cases h with
    | cons h1 h2 => exact .cons (dp_tu d _ g.1 h1 s) (dpAll_tu ds _ g.2 h2 s)
end
theorem DpAll.len : ∀ {vs : List V} {ds : List PyData}, DpAll K H vs ds → vs.length = ds.length
  | _, _, .nil => rfl
  | _, _, .cons _ t => by rw [List.length_cons, List.length_cons, DpAll.len t]
theorem DpAll.get : ∀ {vs : List V} {ds : List PyData} {i : Nat} {v : V}, DpAll K H vs ds → vs[i]? = some v → ∃ d, ds[i]? = some d ∧ Dp K H v d
  | _, _, i, v, .nil, e => by simp at e
  | _, _, 0, v, .cons h t, e => by
    simp only [List.getElem?_cons_zero, Option.some.injEq] at e
    subst e
    exact ⟨_, rfl, h⟩
  | _, _, i + 1, v, .cons h t, e => by
    rw [List.getElem?_cons_succ] at e
    obtain ⟨d, h1, h2⟩ := DpAll.get (i := i) t e
    exact ⟨d, by rw [List.getElem?_cons_succ]; exact h1, h2⟩
theorem DpAll.app : ∀ {vs ws : List V} {ds es : List PyData}, DpAll K H vs ds → DpAll K H ws es → DpAll K H (vs ++ ws) (ds ++ es)
  | _, _, _, _, .nil, h => h
  | _, _, _, _, .cons h t, h2 => .cons h (DpAll.app t h2)
theorem DpAll.take {vs : List V} {ds : List PyData} : ∀ {vs : List V} {ds : List PyData} (n : Nat), DpAll K H vs ds → DpAll K H (vs.take n) (ds.take n)
  | _, _, n, .nil => by simp; exact .nil
  | _, _, 0, .cons h t => .nil
  | _, _, n + 1, .cons h t => .cons h (DpAll.take (vs := []) (ds := []) n t)
/-- the steps as data -/
def GoodS (s : Stp) : Prop := gd (toD s) = true ∧ (toD s).depth ≤ 4 ∧ match s with
  | .oth k c d => k ≠ RES
  | .res _ _ sk => sk.length ≤ 50
def AllG (ss : List Stp) : Prop := ∀ s ∈ ss, GoodS s
def StV (K : PySem.W.Frag) (H : Hp) (vs : List V) (ss : List Stp) : Prop := DpAll K H vs (ss.map toD)
theorem StV.tu {vs : List V} {ss : List Stp} (h : StV K H vs ss) (g : AllG ss) (s : Tu H H') : StV K H' vs ss := dpAll_tu _ _ (gdAll_of fun x hx => by
  obtain ⟨y, hy, rfl⟩ := List.mem_map.mp hx
  exact (g y hy).1) h s
theorem StV.get {vs : List V} {ss : List Stp} {i : Nat} {v : V} (h : StV K H vs ss) (e : vs[i]? = some v) : ∃ s, ss[i]? = some s ∧ Dp K H v (toD s) := by
  obtain ⟨d, h1, h2⟩ := DpAll.get h e
  rw [List.getElem?_map] at h1
  cases hs : ss[i]? with
  | none => rw [hs] at h1; cases h1
  | some s =>
    rw [hs] at h1
    obtain rfl := Option.some.inj h1
    exact ⟨s, rfl, h2⟩
theorem StV.len {vs : List V} {ss : List Stp} (h : StV K H vs ss) : vs.length = ss.length := by
  have := DpAll.len h
  rwa [List.length_map] at this
theorem StV.at {vs : List V} {ss : List Stp} {i : Nat} (h : StV K H vs ss) (hi : i < ss.length) : ∃ v, vs[i]? = some v ∧ atI vs (i : Int) = some v ∧ Dp K H v (toD ss[i]) := by
  have e := List.getElem?_eq_getElem (l := vs) (i := i) (by rw [h.len]; exact hi)
  obtain ⟨s, h1, h2⟩ := h.get e
  rw [List.getElem?_eq_getElem hi] at h1
  obtain rfl := Option.some.inj h1
  exact ⟨_, e, atI_nat e, h2⟩
theorem StV.snoc {vs : List V} {ss : List Stp} {v : V} {s : Stp} (h : StV K H vs ss) (d : Dp K H v (toD s)) : StV K H (vs ++ [v]) (ss ++ [s]) := by
  unfold StV
  rw [List.map_append]
  exact DpAll.app h (.cons d .nil)
theorem StV.app {vs ws : List V} {ss ts : List Stp} (h : StV K H vs ss) (h2 : StV K H ws ts) : StV K H (vs ++ ws) (ss ++ ts) := by
  unfold StV
  rw [List.map_append]
  exact DpAll.app h h2
theorem StV.take {vs : List V} {ss : List Stp} (h : StV K H vs ss) (n : Nat) : StV K H (vs.take n) (ss.take n) := by
  unfold StV
  rw [List.map_take]
  exact DpAll.take (vs := []) (ds := []) n h
/-- the strikes as data -/
theorem sk_dp : ∀ {vs : List V} {sk : List (Int × Nat)}, DpAll K H vs (sk.map skD) → ∀ {i : Nat} {v : V}, vs[i]? = some v → ∃ p t, sk[i]? = some p ∧ v = .ref t ∧ SqT K H t [.int p.1, .int (p.2 : Int)] := by
  intro vs sk h i v e
  obtain ⟨d, h1, h2⟩ := DpAll.get h e
  rw [List.getElem?_map] at h1
  cases hs : sk[i]? with
  | none => rw [hs] at h1; cases h1
  | some p =>
    rw [hs] at h1
    obtain rfl := Option.some.inj h1
    cases h2 with
    | tup h3 h4 =>
      cases h4 with
      | cons h5 h6 =>
        cases h6 with
        | cons h7 h8 =>
          cases h8
          cases h5
          cases h7
          exact ⟨p, _, rfl, rfl, h3⟩
/-- a step, read -/
theorem step_oth {v : V} {k : Str} {c d : PyData} (h : Dp K H v (toD (.oth k c d))) : ∃ t x y, v = .ref t ∧ SqT K H t [.str k, x, y] ∧ Dp K H x c ∧ Dp K H y d := by
  cases h with
  | tup h1 h2 =>
    cases h2 with
    | cons a b =>
      cases b with
      | cons a2 b2 =>
        cases b2 with
        | cons a3 b3 =>
          cases b3
          cases a
          exact ⟨_, _, _, rfl, h1, a2, a3⟩
theorem step_res {v : V} {f : Nat} {c : PyData} {sk : List (Int × Nat)} (h : Dp K H v (toD (.res c f sk))) : ∃ t x y u ws, v = .ref t ∧ SqT K H t [.str RES, x, .ref y] ∧ Dp K H x c ∧ SqT K H y [.int (f : Int), .ref u] ∧ SqT K H u ws ∧ DpAll K H ws (sk.map skD) := by
  cases h with
  | tup h1 h2 =>
    cases h2 with
    | cons a b =>
      cases b with
      | cons a2 b2 =>
        cases b2 with
        | cons a3 b3 =>
          cases b3
          cases a
          cases a3 with
          | tup h3 h4 =>
            cases h4 with
            | cons c1 c2 =>
              cases c2 with
              | cons c3 c4 =>
                cases c4
                cases c1
                cases c3 with
                | tup h5 h6 => exact ⟨_, _, _, _, _, rfl, h1, a2, h3, h5, h6⟩
theorem gd_sk (sk : List (Int × Nat)) : gdAll (sk.map skD) = true := gdAll_of fun x hx => by
  obtain ⟨p, _, rfl⟩ := List.mem_map.mp hx
  rfl
theorem depth_sk : ∀ (sk : List (Int × Nat)), PyData.depthAll (sk.map skD) ≤ 1
  | [] => Nat.zero_le _
  | p :: sk => by
    rw [List.map_cons]
    unfold PyData.depthAll
    exact Nat.max_le.mpr ⟨by simp [skD, PyData.depth, PyData.depthAll], depth_sk sk⟩
theorem good_ren {s : Stp} (h : GoodS s) (p : Nat → Nat) : GoodS (ren p s) := by
  cases s with
  | oth k c d => exact h
  | res c f sk =>
    obtain ⟨h1, h2, h3⟩ := h
    have e1 : gd c = true := by
      simp only [toD, gd, gdAll, Bool.and_eq_true] at h1
      exact h1.2.2.1
    have e2 : c.depth ≤ 3 := by
      simp only [toD, PyData.depth, PyData.depthAll] at h2
      omega
    refine ⟨?_, ?_, by simp only [ren, List.length_map]; exact h3⟩
    · have h5 : decide ((sk.map fun x => (x.1, p x.2)).length ≤ 1000) = true := decide_eq_true (by rw [List.length_map]; exact Nat.le_trans h3 (by decide))
      have h6 : decide (((sk.map fun x => (x.1, p x.2)).map skD).length ≤ 1000) = true := by rw [List.length_map]; exact h5
      have h7 := gd_sk (sk.map fun x => (x.1, p x.2))
      show gd (.tuple [.str RES, c, .tuple [.int ((p f : Nat) : Int), .tuple ((sk.map fun x => (x.1, p x.2)).map skD)]]) = true
      generalize (sk.map fun x => (x.1, p x.2)).map skD = L at *
      unfold gd gdAll gdAll gdAll gdAll
      rw [e1]
      unfold gd
      unfold gdAll gdAll gdAll
      unfold gd
      rw [h6, h7]
      rfl
    · have := depth_sk (sk.map fun x => (x.1, p x.2))
      simp only [ren, toD, PyData.depth, PyData.depthAll]
      omega
end
end L

namespace L
open PySem PySem.Spec PyProof.Rows L2 Z DT
section
variable {K : PySem.W.Frag} {H : Hp} {Q : VK}
theorem w_isi_it {a : Int} (q : Q (.bl false) H) : rIsi K [.int a, .ty "tuple"] H Q := w_isi (.ty _) (.base (.int _)) (kit_ty (by decide +kernel)) q
theorem w_isi_st {a : Str} (q : Q (.bl false) H) : rIsi K [.str a, .ty "tuple"] H Q := w_isi (.ty _) (.base (.str _)) (kit_ty (by decide +kernel)) q
theorem w_isi_nt (q : Q (.bl false) H) : rIsi K [.non, .ty "tuple"] H Q := w_isi (.ty _) (.base .non) (kit_ty (by decide +kernel)) q
theorem w_isi_ns (q : Q (.bl false) H) : rIsi K [.non, .ty "str"] H Q := w_isi (.ty _) (.base .non) (kit_ty (by decide +kernel)) q
end
end L

local macro_rules | `(tactic| walk_at "cond") => `(tactic| first | assumption | fail "cond")
local macro_rules | `(tactic| walk_at "pl") => `(tactic| first | assumption | exact L.PX.refl' (by assumption) | fail "pl")
local macro_rules | `(tactic| walk_at "w1") => `(tactic| first
  | ((with_reducible refine' Z.w_ixT ?wh ?wa ?_); (case wh => walk_at "seq"); (case wa => exact rfl))
  | ((with_reducible refine' Z.w_gtup ?wh ?wa ?_); (case wh => walk_at "seq"); (case wa => exact rfl))
  | ((with_reducible refine' L.w_isiT_T ?wh ?_); (case wh => walk_at "seq"))
  | ((with_reducible refine' L.use_takeP ?wh ?wa ?wb (fun r H1 p1 h0 h1 => ?_)); (case wh => walk_at "pl"); (case wa => omega); (case wb => omega))
  | with_reducible refine L.use_whole ?_
  | with_reducible refine L.w_tdget ?_
  | with_reducible refine L.w_tdget2 ?_
  | with_reducible refine Z.w_rEqI ?_
  | with_reducible refine Z.w_rNeI ?_
  | ((with_reducible refine' Z.w_rEq ?wh ?_); (case wh => exact rfl))
  | ((with_reducible refine' Z.w_rNe ?wh ?_); (case wh => exact rfl))
  | with_reducible refine L.w_isi_it ?_
  | with_reducible refine L.w_isi_st ?_
  | with_reducible refine L.w_isi_nt ?_
  | with_reducible refine L.w_isi_ns ?_
  | fail "w1")

namespace L
open PySem PySem.Spec PyProof.Rows L2 Z M DT MK
section
variable {P : Program} {w : World} {K : PySem.W.Frag} {mg : Str → Option Value} {base : Heap}
theorem depth_mem : ∀ {xs : List PyData} {x : PyData}, x ∈ xs → x.depth ≤ PyData.depthAll xs
  | y :: ys, x, h => by
    unfold PyData.depthAll
    rcases List.mem_cons.mp h with e | m
    · rw [e]; exact Nat.le_max_left _ _
    · exact Nat.le_trans (depth_mem m) (Nat.le_max_right _ _)
/-- the same data on both sides, of at most that depth -/
def spAlike (K : PySem.W.Frag) : Nat → Sp
  | 0 => fun _ _ _ _ => False
  | n + 1 => fun vs H Q _ => ∃ (x y : V) (d : PyData), vs = [x, y] ∧ Dp K H x d ∧ Dp K H y d ∧ gd d = true ∧ d.depth ≤ n ∧ ∀ H', Same H H' → Q (.bl true) H'
theorem use_alike {n : Nat} {x y : V} {d : PyData} {H : Hp} {Q : VK} {E : XK} (h1 : Dp K H x d) (h2 : Dp K H y d) (h3 : gd d = true) (h4 : d.depth ≤ n) (h : ∀ H', Same H H' → Q (.bl true) H') : spAlike K (n + 1) [x, y] H Q E := ⟨x, y, d, rfl, h1, h2, h3, h4, h⟩
theorem ok_alike (T : Txt K mg) : ∀ n, FnOk P w K mg base CX0 (n + 1) T.f_alike T.fd_alike ["_law_told", "_law_due_here"] (spAlike K n) := by
  intro n
  have G_whole := ok_whole (P := P) (w := w) (base := base) T
  induction n with
  | zero => exact T.F_alike.ok sc_alike (fun vs H Q E h => h.elim) (fun cdv A outer s H vs Q E hr h => h.elim)
  | succ n ih =>
    have G_alike := ih
    refine T.F_alike.ok sc_alike (fun vs H Q E h => ?_) (fun cdv A outer s H vs Q E hr h => ?_)
    · obtain ⟨x, y, d, rfl, _⟩ := h
      rfl
    · obtain ⟨x, y, d, rfl, hx, hy, hg, hd, h⟩ := h
      refine ⟨_, (pss_cons (ps_if (pt_val (pe_callB call_isi (by rfl) T.m_isinstance (by decide +kernel) (pa_cons (pv 1) (pa_cons (pe_bltn (v := .ty "tuple") (by rfl) T.m_tuple (by decide +kernel) rfl) pa_nil)))) (pss_cons (ps_if (PW.pt (pw_or (pt_not (pt_val (pe_callB call_isi (by rfl) T.m_isinstance (by decide +kernel) (pa_cons (pv 0) (pa_cons (pe_bltn (v := .ty "tuple") (by rfl) T.m_tuple (by decide +kernel) rfl) pa_nil))))) (pw_or1 (pt_cmpR op_ne (pe_callB call_len_seq (by rfl) T.m_len (by decide +kernel) (pa_cons (pv 0) pa_nil)) (pe_callB call_len_seq (by rfl) T.m_len (by decide +kernel) (pa_cons (pv 1) pa_nil)) (nomark _))))) (pss_one (ps_ret pe_bl)) pss_nil)
 (pss_one (ps_ret (pe_cmpR op_eq (pe_callB call_len_seq (by rfl) T.m_len (by decide +kernel) (pa_cons (pe_lc (own := [("_law_k", 2)]) (g := gName 2) (by rfl) sc_alike.nd (pi_range1 (by rfl) T.m_range (pa_cons (pe_callB call_len_seq (by rfl) T.m_len (by decide +kernel) (pa_cons (pv 1) pa_nil)) pa_nil)) (blkOk_by (own := [("_law_k", 2)]) (N := N_alike) (sc := defScope s_alike) (by decide +kernel)) (fun _ _ _ _ _ => pg_name (i := 2) sc_alike.nd rfl (Or.inl rfl)) (fun _ _ _ _ _ => pts_one (pt_not (pt_val (pe_call G_alike (hr.mono (by first | decide | omega)) (by rfl) T.g_alike T.F_alike.kp T.b_alike .nil pass0 (pa_cons (pe_ix (show IxR _ (rIxT K) from ix_tup) (pv 0) (pv 2) (fun _ _ => rfl)) (pa_cons (pe_ix (show IxR _ (rIxT K) from ix_tup) (pv 1) (pv 2) (fun _ _ => rfl)) pa_nil)))))) (fun _ _ _ _ _ => (pv 2))) pa_nil)) pe_int (nomark _))))) pss_nil)
 (pss_cons (ps_if (pt_val (pe_callB call_isi (by rfl) T.m_isinstance (by decide +kernel) (pa_cons (pv 1) (pa_cons (pe_bltn (v := .ty "str") (by rfl) T.m_str (by decide +kernel) rfl) pa_nil)))) (pss_one (ps_ret (pe_and (pe_callB call_isi (by rfl) T.m_isinstance (by decide +kernel) (pa_cons (pv 0) (pa_cons (pe_bltn (v := .ty "str") (by rfl) T.m_str (by decide +kernel) rfl) pa_nil))) (pe_one (pe_cmpR op_eq (pv 0) (pv 1) (nomark _)))))) pss_nil)
 (pss_cons (ps_if (pt_cmpR op_isN (pv 1) pe_non (nomark _)) (pss_one (ps_ret (pe_cmpR op_isN (pv 0) pe_non (nomark _)))) pss_nil)
 (pss_one (ps_ret (pe_and (pe_call G_whole (hr.mono (by first | decide | omega)) (by rfl) T.g_whole T.F_whole.kp T.b_whole .nil pass0 (pa_cons (pv 0) pa_nil)) (pe_one (pe_cmpR op_eq (pv 0) (pv 1) (nomark _))))))))), ?_⟩
      refine Z.w_start (σ' := [some x, some y, none]) rfl ?_
      cases hx with
      | bl b => cases hg
      | lst _ _ => cases hg
      | non =>
        cases hy
        walk_at "w"
        exact h _ (Same.refl _)
      | int i =>
        cases hy
        walk_at "w"
        have e : decide (V.int i = V.int i) = true := decide_eq_true rfl
        first | (rw [e]; exact h _ (Same.refl _)) | (rw [decide_eq_true rfl]; exact h _ (Same.refl _))
      | str i =>
        cases hy
        walk_at "w"
        have e : decide (V.str i = V.str i) = true := decide_eq_true rfl
        first | (rw [e]; exact h _ (Same.refl _)) | (rw [decide_eq_true rfl]; exact h _ (Same.refl _))
      | @tup a xs ds h1 h2 =>
        cases hy with
        | @tup b ys _ g1 g2 =>
          have e1 := DpAll.len h2
          have e2 := DpAll.len g2
          have hg2 : decide (ds.length ≤ 1000) = true ∧ gdAll ds = true := by unfold gd at hg; exact Bool.and_eq_true_iff.mp hg
          have hgd := hg2.2
          have hlim := of_decide_eq_true hg2.1
          walk_at "w"
          refine ⟨by omega, by omega, fun D hD => ?_⟩
          refine lc_range (lo := 0) (n := _) (fun i H' => Same H H' ∧ H' D = some (.lst [])) ?_ ?_ ?_
          · exact ⟨same_of (Same.refl _) hD, upd_same⟩
          · rintro i H' hi ⟨sm, hc⟩
            rw [Int.toNat_natCast] at hi
            have hix : i < xs.length := by omega
            have hiy : i < ys.length := by omega
            obtain ⟨d1, k1, k2⟩ := DpAll.get h2 (List.getElem?_eq_getElem hix)
            obtain ⟨d2, k3, k4⟩ := DpAll.get g2 (List.getElem?_eq_getElem hiy)
            rw [k1] at k3
            obtain rfl := Option.some.inj k3
            have hm := List.mem_of_getElem? k1
            have a1 : atI xs (0 + (i : Int)) = some xs[i] := by rw [Int.zero_add]; exact atI_nat (List.getElem?_eq_getElem hix)
            have a2 : atI ys (0 + (i : Int)) = some ys[i] := by rw [Int.zero_add]; exact atI_nat (List.getElem?_eq_getElem hiy)
            have h1' := sqT_tu h1 (.ofS sm)
            have g1' := sqT_tu g1 (.ofS sm)
            refine Z.w_gname (σ' := [some (.ref a), some (.ref b), some (.int (0 + (i : Int)))]) rfl ⟨rfl, ?_⟩
            walk_at "w"
            obtain ⟨m, rfl⟩ : ∃ m, n = m + 1 := ⟨n - 1, by unfold PyData.depth at hd; omega⟩
            have hdep : d1.depth ≤ m := by
              have := depth_mem hm
              unfold PyData.depth at hd
              omega
            refine use_alike (dp_tu d1 _ (gdAll_mem hgd hm) k2 (.ofS sm)) (dp_tu d1 _ (gdAll_mem hgd hm) k4 (.ofS sm)) (gdAll_mem hgd hm) hdep fun H2 s2 => ?_
            walk_at "w"
            exact ⟨sm.trans s2, s2 _ _ hc⟩
          · rintro H' ⟨sm, hc⟩
            walk_at "w"
            exact h _ sm
end
end L

namespace L
open PySem PySem.Spec PyProof.Rows L2 Z M DT MK
section
variable {P : Program} {w : World} {K : PySem.W.Frag} {mg : Str → Option Value} {base : Heap}
theorem vRES : V.str RES = V.str "resolve" := rfl
def nint (ns : List Nat) : List V := ns.map fun n : Nat => V.int (n : Int)
theorem nint_snoc {ns : List Nat} {i n : Nat} (h : ns[i]? = some n) : nint (ns.take (i + 1)) = nint (ns.take i) ++ [.int (n : Int)] := by
  unfold nint
  rw [List.take_add_one, h, List.map_append]
  rfl
def spUsed (K : PySem.W.Frag) : Sp := fun vs H Q _ => ∃ (v : V) (s : Stp), vs = [v] ∧ Dp K H v (toD s) ∧ GoodS s ∧ ∀ p H', Same H H' → H' p = some (.lst (nint (uses s))) → Q (.ref p) H'
theorem use_used {v : V} {s : Stp} {H : Hp} {Q : VK} {E : XK} (h1 : Dp K H v (toD s)) (h2 : GoodS s) (h : ∀ p H', Same H H' → H' p = some (.lst (nint (uses s))) → Q (.ref p) H') : spUsed K [v] H Q E := ⟨v, s, rfl, h1, h2, h⟩
theorem ok_used (T : Txt K mg) : FnOk P w K mg base CX0 1 T.f_used_numbers T.fd_used_numbers ["step"] (spUsed K) := by
  refine T.F_used_numbers.ok sc_used_numbers (fun vs H Q E h => ?_) (fun cdv A outer s H vs Q E hr h => ?_)
  · obtain ⟨v, s, rfl, _⟩ := h
    rfl
  · obtain ⟨v, s, rfl, hd, hg, h⟩ := h
    cases s with
    | oth k c d =>
      obtain ⟨t, x, y, rfl, h1, h2, h3⟩ := step_oth hd
      have hk : ¬ V.str k = V.str "resolve" := fun z => hg.2.2 (V.str.inj z)
      refine ⟨_, (pss_cons (ps_asg (pv 0) (pg_tup (by rfl) (pgs_cons (pg_name (i := 1) sc_used_numbers.nd rfl (.inl rfl)) (pgs_cons (pg_name (i := 2) sc_used_numbers.nd rfl (.inl rfl)) (pgs_cons (pg_name (i := 3) sc_used_numbers.nd rfl (.inl rfl)) pgs_nil)))))
 (pss_cons (ps_if (pt_cmpR op_ne (pv 1) pe_str (nomark _)) (pss_one (ps_ret (pe_lst pa_nil))) pss_nil)
 (pss_cons (ps_asg (pv 3) (pg_tup (by rfl) (pgs_cons (pg_name (i := 4) sc_used_numbers.nd rfl (.inl rfl)) (pgs_cons (pg_name (i := 5) sc_used_numbers.nd rfl (.inl rfl)) pgs_nil))))
 (pss_one (ps_ret (pe_op op_cat (pe_lst (pa_cons (pv 4) pa_nil)) (pe_lc (own := [("_", 2), ("number", 6)]) (tt := tYes) (g := gTup K 2 (gCons (gName 2) (gCons (gName 6) gNil))) (by rfl) sc_used_numbers.nd (pi_tup (pv 5)) (blkOk_by (own := [("_", 2), ("number", 6)]) (N := N_used_numbers) (sc := defScope s_used_numbers) (by decide +kernel)) (fun _ _ _ _ _ => pg_tup (by rfl) (pgs_cons (pg_name (i := 2) sc_used_numbers.nd rfl (Or.inl rfl)) (pgs_cons (pg_name (i := 6) sc_used_numbers.nd rfl (Or.inl rfl)) pgs_nil))) (fun _ _ _ _ _ => pts_nil) (fun _ _ _ _ _ => (pv 6))))))))), ?_⟩
      refine Z.w_start (σ' := [some (.ref t), none, none, none, none, none, none]) rfl ?_
      walk_at "w"
      rename_i q hq
      exact h _ _ (same_of (Same.refl _) hq) upd_same
    | res c f sk =>
      obtain ⟨t, x, y, u, ws, rfl, h1, h2, h3, h4, h5⟩ := step_res hd
      have hl := DpAll.len h5
      rw [List.length_map] at hl
      have hsk : sk.length ≤ 50 := hg.2.2
      refine ⟨_, (pss_cons (ps_asg (pv 0) (pg_tup (by rfl) (pgs_cons (pg_name (i := 1) sc_used_numbers.nd rfl (.inl rfl)) (pgs_cons (pg_name (i := 2) sc_used_numbers.nd rfl (.inl rfl)) (pgs_cons (pg_name (i := 3) sc_used_numbers.nd rfl (.inl rfl)) pgs_nil)))))
 (pss_cons (ps_if (pt_cmpR op_ne (pv 1) pe_str (nomark _)) (pss_one (ps_ret (pe_lst pa_nil))) pss_nil)
 (pss_cons (ps_asg (pv 3) (pg_tup (by rfl) (pgs_cons (pg_name (i := 4) sc_used_numbers.nd rfl (.inl rfl)) (pgs_cons (pg_name (i := 5) sc_used_numbers.nd rfl (.inl rfl)) pgs_nil))))
 (pss_one (ps_ret (pe_op op_cat (pe_lst (pa_cons (pv 4) pa_nil)) (pe_lc (own := [("_", 2), ("number", 6)]) (tt := tYes) (g := gTup K 2 (gCons (gName 2) (gCons (gName 6) gNil))) (by rfl) sc_used_numbers.nd (pi_tup (pv 5)) (blkOk_by (own := [("_", 2), ("number", 6)]) (N := N_used_numbers) (sc := defScope s_used_numbers) (by decide +kernel)) (fun _ _ _ _ _ => pg_tup (by rfl) (pgs_cons (pg_name (i := 2) sc_used_numbers.nd rfl (Or.inl rfl)) (pgs_cons (pg_name (i := 6) sc_used_numbers.nd rfl (Or.inl rfl)) pgs_nil))) (fun _ _ _ _ _ => pts_nil) (fun _ _ _ _ _ => (pv 6))))))))), ?_⟩
      refine Z.w_start (σ' := [some (.ref t), none, none, none, none, none, none]) rfl ?_
      walk_at "w"
      refine Z.w_iteNF vRES ?_
      walk_at "w"
      rename_i q hq
      have s0 := same_of (Same.refl H) hq (o := .lst [.int (f : Int)])
      have h4' := sqT_tu h4 (.ofS s0)
      refine fun D hD => lc_tup (K := K) (xs := ws) (fun i H' => Same H H' ∧ H' q = some (.lst [.int (f : Int)]) ∧ H' D = some (.lst (nint ((sk.map (·.2)).take i))) ∧ i ≤ 50) ?_ ?_ ?_ ?_
      · exact ⟨same_of s0 hD, upd_of hD upd_same, upd_same, by decide⟩
      · rintro i H' _ ⟨sm, _⟩
        exact sqT_tu h4 (.ofS sm)
      · rintro i v H' hv ⟨sm, e1, e2, hi⟩
        obtain ⟨p, t2, k1, rfl, k2⟩ := sk_dp h5 hv
        have hil : i < sk.length := (List.getElem?_eq_some_iff.mp k1).1
        have k2' := sqT_tu k2 (.ofS sm)
        have k3 : (sk.map (·.2))[i]? = some p.2 := by rw [List.getElem?_map, k1]; rfl
        show gTup K 2 (gCons (gName 2) (gCons (gName 6) gNil)) (.ref t2) [some (.ref t), some (.str RES), none, some (.ref y), some (.int (f : Int)), some (.ref u), none] H' _
        refine Z.w_gtup k2' rfl ?_
        walk_at "w"
        have nD : D ≠ q := fun z => by
          subst z
          rw [upd_same] at hD
          cases hD
        refine ⟨_, e2, ?_, ?_, ?_, by rw [upd_same, nint_snoc k3], by omega⟩
        · unfold nint
          rw [List.length_map, List.length_take, List.length_map]
          exact Nat.lt_of_le_of_lt (Nat.min_le_left _ _) (Nat.lt_trans (show i < 1000 by omega) (by decide))
        · refine same_mut sm ?_
          cases e : H D with
          | none => rfl
          | some o => rw [s0 _ _ e] at hD; cases hD
        · rw [upd_ne nD.symm]
          exact e1
      · rintro H' ⟨sm, e1, e2, _⟩
        rw [hl] at e2
        have e3 : (sk.map (·.2)).take sk.length = sk.map (·.2) := List.take_of_length_le (by rw [List.length_map]; exact Nat.le_refl _)
        rw [e3] at e2
        refine ⟨q, D, _, _, rfl, rfl, e1, e2, ?_, fun p hp => ?_⟩
        · unfold nint
          rw [List.length_map, List.length_map]
          exact sz4 (by simp; omega)
        · exact h _ _ (same_of sm hp) upd_same
/-! renumbering -/
def spRenum (K : PySem.W.Frag) : Sp := fun vs H Q _ => ∃ (v : V) (d : Addr) (s : Stp) (kvs : List (Key × V)) (pf : Nat → Nat), vs = [v, .ref d] ∧ Dp K H v (toD s) ∧ GoodS s ∧ H d = some (.dK kvs) ∧ (∀ u ∈ uses s, valV kvs (Sum.inl (u : Int)) = some (.int (pf u : Int))) ∧ ∀ w H', Same H H' → Dp K H' w (toD (ren pf s)) → Q w H'
theorem use_renum {v : V} {d : Addr} {s : Stp} {kvs : List (Key × V)} {pf : Nat → Nat} {H : Hp} {Q : VK} {E : XK} (h1 : Dp K H v (toD s)) (h2 : GoodS s) (h3 : H d = some (.dK kvs)) (h4 : ∀ u ∈ uses s, valV kvs (Sum.inl (u : Int)) = some (.int (pf u : Int))) (h : ∀ w H', Same H H' → Dp K H' w (toD (ren pf s)) → Q w H') : spRenum K [v, .ref d] H Q E := ⟨v, d, s, kvs, pf, rfl, h1, h2, h3, h4, h⟩
theorem sk_snoc {sk : List (Int × Nat)} {i : Nat} {p : Int × Nat} (h : sk[i]? = some p) (g : Int × Nat → Int × Nat) : ((sk.take (i + 1)).map g).map skD = ((sk.take i).map g).map skD ++ [skD (g p)] := by
  rw [List.take_add_one, h, List.map_append, List.map_append]
  rfl
theorem gd_parts {s : Stp} (h : GoodS s) {c : PyData} {f : Nat} {sk : List (Int × Nat)} (e : s = .res c f sk) : gd c = true := by
  subst e
  obtain ⟨h1, _, _⟩ := h
  simp only [toD, gd, gdAll, Bool.and_eq_true] at h1
  exact h1.2.2.1
theorem ok_renum (T : Txt K mg) : FnOk P w K mg base CX0 1 T.f_renumbered T.fd_renumbered ["step", "places"] (spRenum K) := by
  refine T.F_renumbered.ok sc_renumbered (fun vs H Q E h => ?_) (fun cdv A outer s H vs Q E hr h => ?_)
  · obtain ⟨v, d, s, kvs, pf, rfl, _⟩ := h
    rfl
  · obtain ⟨v, d, s, kvs, pf, rfl, hd, hg, hdk, hpl, h⟩ := h
    cases s with
    | oth k c dd =>
      obtain ⟨t, x, y, rfl, h1, h2, h3⟩ := step_oth hd
      have hk : ¬ V.str k = V.str "resolve" := fun z => hg.2.2 (V.str.inj z)
      refine ⟨_, (pss_cons (ps_asg (pv 0) (pg_tup (by rfl) (pgs_cons (pg_name (i := 2) sc_renumbered.nd rfl (.inl rfl)) (pgs_cons (pg_name (i := 3) sc_renumbered.nd rfl (.inl rfl)) (pgs_cons (pg_name (i := 4) sc_renumbered.nd rfl (.inl rfl)) pgs_nil)))))
 (pss_cons (ps_if (pt_cmpR op_ne (pv 2) pe_str (nomark _)) (pss_one (ps_ret (pv 0))) pss_nil)
 (pss_cons (ps_asg (pv 4) (pg_tup (by rfl) (pgs_cons (pg_name (i := 5) sc_renumbered.nd rfl (.inl rfl)) (pgs_cons (pg_name (i := 6) sc_renumbered.nd rfl (.inl rfl)) pgs_nil))))
 (pss_cons (ps_setLc (i := 7) (own := [("literal", 8), ("number", 9)]) (tt := tYes) (g := gTup K 2 (gCons (gName 8) (gCons (gName 9) gNil))) (by rfl) sc_renumbered.nd rfl rfl (sw_true rfl rfl rfl (by decide +kernel)) (pi_tup (pv 6)) (blkOk_by (own := [("literal", 8), ("number", 9)]) (N := N_renumbered) (sc := defScope s_renumbered) (by decide +kernel)) (fun _ _ _ _ _ => pg_tup (by rfl) (pgs_cons (pg_name (i := 8) sc_renumbered.nd rfl (Or.inl rfl)) (pgs_cons (pg_name (i := 9) sc_renumbered.nd rfl (Or.inl rfl)) pgs_nil))) (fun _ _ _ _ _ => pts_nil) (fun _ _ _ _ _ => (pe_tup (pa_cons (pv 8) (pa_cons (pe_dget (hu_of hr) (pv 1) (pv 9) (fun _ _ => rfl)) pa_nil)))))
 (pss_one (ps_ret (pe_tup (pa_cons (pv 2) (pa_cons (pv 3) (pa_cons (pe_tup (pa_cons (pe_dget (hu_of hr) (pv 1) (pv 5) (fun _ _ => rfl)) (pa_cons (pe_callTy DT.call_tupleZ (by rfl) T.m_tuple (by decide +kernel) (pa_cons (pv 7) pa_nil)) pa_nil))) pa_nil)))))))))), ?_⟩
      refine Z.w_start (σ' := [some (.ref t), some (.ref d), none, none, none, none, none, none, none, none]) rfl ?_
      walk_at "w"
      exact h _ _ (Same.refl _) hd
    | res c f sk =>
      obtain ⟨t, x, y, u, ws, rfl, h1, h2, h3, h4, h5⟩ := step_res hd
      have hl := DpAll.len h5
      rw [List.length_map] at hl
      have hsk : sk.length ≤ 50 := hg.2.2
      have hgc := gd_parts hg rfl
      refine ⟨_, (pss_cons (ps_asg (pv 0) (pg_tup (by rfl) (pgs_cons (pg_name (i := 2) sc_renumbered.nd rfl (.inl rfl)) (pgs_cons (pg_name (i := 3) sc_renumbered.nd rfl (.inl rfl)) (pgs_cons (pg_name (i := 4) sc_renumbered.nd rfl (.inl rfl)) pgs_nil)))))
 (pss_cons (ps_if (pt_cmpR op_ne (pv 2) pe_str (nomark _)) (pss_one (ps_ret (pv 0))) pss_nil)
 (pss_cons (ps_asg (pv 4) (pg_tup (by rfl) (pgs_cons (pg_name (i := 5) sc_renumbered.nd rfl (.inl rfl)) (pgs_cons (pg_name (i := 6) sc_renumbered.nd rfl (.inl rfl)) pgs_nil))))
 (pss_cons (ps_setLc (i := 7) (own := [("literal", 8), ("number", 9)]) (tt := tYes) (g := gTup K 2 (gCons (gName 8) (gCons (gName 9) gNil))) (by rfl) sc_renumbered.nd rfl rfl (sw_true rfl rfl rfl (by decide +kernel)) (pi_tup (pv 6)) (blkOk_by (own := [("literal", 8), ("number", 9)]) (N := N_renumbered) (sc := defScope s_renumbered) (by decide +kernel)) (fun _ _ _ _ _ => pg_tup (by rfl) (pgs_cons (pg_name (i := 8) sc_renumbered.nd rfl (Or.inl rfl)) (pgs_cons (pg_name (i := 9) sc_renumbered.nd rfl (Or.inl rfl)) pgs_nil))) (fun _ _ _ _ _ => pts_nil) (fun _ _ _ _ _ => (pe_tup (pa_cons (pv 8) (pa_cons (pe_dget (hu_of hr) (pv 1) (pv 9) (fun _ _ => rfl)) pa_nil)))))
 (pss_one (ps_ret (pe_tup (pa_cons (pv 2) (pa_cons (pv 3) (pa_cons (pe_tup (pa_cons (pe_dget (hu_of hr) (pv 1) (pv 5) (fun _ _ => rfl)) (pa_cons (pe_callTy DT.call_tupleZ (by rfl) T.m_tuple (by decide +kernel) (pa_cons (pv 7) pa_nil)) pa_nil))) pa_nil)))))))))), ?_⟩
      refine Z.w_start (σ' := [some (.ref t), some (.ref d), none, none, none, none, none, none, none, none]) rfl ?_
      walk_at "w"
      refine Z.w_iteNF vRES ?_
      walk_at "w"
      refine fun D hD => lc_tup (K := K) (xs := ws) (fun i H' => Same H H' ∧ i ≤ 50 ∧ ∃ vs, H' D = some (.lst vs) ∧ DpAll K H' vs (((sk.take i).map fun x => (x.1, pf x.2)).map skD)) ?_ ?_ ?_ ?_
      · exact ⟨same_of (Same.refl _) hD, by decide, [], upd_same, .nil⟩
      · rintro i H' _ ⟨sm, _⟩
        exact sqT_tu h4 (.ofS sm)
      · rintro i v H' hv ⟨sm, hi, vs, e2, dv⟩
        obtain ⟨p, t2, k1, rfl, k2⟩ := sk_dp h5 hv
        have hil : i < sk.length := (List.getElem?_eq_some_iff.mp k1).1
        have k2' := sqT_tu k2 (.ofS sm)
        have hpl2 := hpl p.2 (List.mem_cons_of_mem _ (List.mem_map_of_mem (List.mem_of_getElem? k1)))
        show gTup K 2 (gCons (gName 8) (gCons (gName 9) gNil)) (.ref t2) [some (.ref t), some (.ref d), some (.str RES), some x, some (.ref y), some (.int (f : Int)), some (.ref u), none, none, none] H' _
        refine Z.w_gtup k2' rfl ?_
        walk_at "w"
        refine ⟨d, _, rfl, by rw [← hpl2]; exact DGet.k (k := Sum.inl (p.2 : Int)) (sm _ _ hdk), ?_⟩
        walk_at "w"
        rename_i t3 ht3
        have s3 := same_of (Same.refl H') ht3 (o := .tup [.int p.1, .int (pf p.2 : Int)])
        refine ⟨vs, s3 _ _ e2, ?_, same_mut (sm.trans s3) hD, by omega, _, upd_same, ?_⟩
        · rw [DpAll.len dv, List.length_map, List.length_map, List.length_take]
          exact Nat.lt_of_le_of_lt (Nat.min_le_left _ _) (Nat.lt_trans (show i < 1000 by omega) (by decide))
        · rw [sk_snoc k1]
          have tu : Tu H' (upd (upd H' t3 (.tup [.int p.1, .int (pf p.2 : Int)])) D (.lst (vs ++ [.ref t3]))) := Tu.of ((Mo.of s3).trans ((Mo.refl _).lst (s3 _ _ e2)))
          have nt : t3 ≠ D := by
            rintro rfl
            rw [e2] at ht3
            cases ht3
          refine DpAll.app (dpAll_tu _ _ (gd_sk _) dv tu) (.cons (.tup (.inl (.inl ?_)) (.cons (.int _) (.cons (.int _) .nil))) .nil)
          rw [upd_ne nt, upd_same]
      · rintro H' ⟨sm, _, vs, e2, dv⟩
        rw [hl, List.take_length] at dv
        walk_at "w"
        refine ⟨d, _, rfl, by rw [← hpl f List.mem_cons_self]; exact DGet.k (k := Sum.inl (f : Int)) (sm _ _ hdk), ?_⟩
        walk_at "w"
        refine ⟨D, vs, rfl, .inl (.inl e2), fun l o hl4 hb => ?_⟩
        have s4 := same_of (Same.refl H') hl4 (o := .frz o (.tup vs))
        walk_at "w"
        rename_i p5 hp5 p6 hp6
        have s5 := same_of (Same.refl _) hp5 (o := .tup [.int (pf f : Int), .ref l]) (H' := upd H' l (.frz o (.tup vs)))
        have s6 := same_of (Same.refl _) hp6 (o := .tup [.str RES, x, .ref p5]) (H' := upd (upd H' l (.frz o (.tup vs))) p5 (.tup [.int (pf f : Int), .ref l]))
        have sall := (sm.trans s4).trans (s5.trans s6)
        refine h _ _ sall (.tup (.inl (.inl upd_same)) (.cons (.str _) (.cons (dp_tu c _ hgc h2 (.ofS sall)) (.cons (.tup (.inl (.inl (upd_of hp6 upd_same))) (.cons (.int _) (.cons (.tup (.inl (.inr ⟨o, upd_of hp6 (upd_of hp5 upd_same)⟩)) ?_) .nil))) .nil))))
        exact dpAll_tu _ _ (gd_sk _) dv (.ofS (s4.trans (s5.trans s6)))
end
end L

namespace L
open PySem PySem.Spec PyProof.Rows L2 Z M DT MK
section
variable {P : Program} {w : World} {K : PySem.W.Frag} {mg : Str → Option Value} {base : Heap}
def spMoved (K : PySem.W.Frag) : Sp := fun vs H Q _ => ∃ (v : V) (k : Nat) (s : Stp), vs = [v, .int (k : Int)] ∧ Dp K H v (toD s) ∧ GoodS s ∧ ∀ w H', Same H H' → Dp K H' w (toD (mv k s)) → Q w H'
theorem use_moved {v : V} {k : Nat} {s : Stp} {H : Hp} {Q : VK} {E : XK} (h1 : Dp K H v (toD s)) (h2 : GoodS s) (h : ∀ w H', Same H H' → Dp K H' w (toD (mv k s)) → Q w H') : spMoved K [v, .int (k : Int)] H Q E := ⟨v, k, s, rfl, h1, h2, h⟩
/-- the end of both: a new step of the moved strikes -/
theorem b_res {H : Hp} {x : V} {c : PyData} {f k : Nat} {sk : List (Int × Nat)} {l u t : Addr} {o1 o2 : HO} {vs : List V} (hx : Dp K H x c) (hl : SqT K H l vs) (hd : DpAll K H vs ((sk.map fun y => (y.1, y.2 + k)).map skD)) (hc : gd c = true) (hu : H u = none) (ht : (upd H u (.tup [.int ((f : Int) + (k : Int)), .ref l])) t = none) :
    Dp K (upd (upd H u (.tup [.int ((f : Int) + (k : Int)), .ref l])) t (.tup [.str RES, x, .ref u])) (.ref t) (toD (mv k (.res c f sk))) := by
  have s1 := same_of (Same.refl H) hu (o := .tup [.int ((f : Int) + (k : Int)), .ref l])
  have s2 := same_of s1 ht (o := .tup [.str RES, x, .ref u])
  refine .tup (.inl (.inl upd_same)) (.cons (.str _) (.cons (dp_tu c _ hc hx (.ofS s2)) (.cons (.tup (.inl (.inl (upd_of ht upd_same))) (.cons ?_ (.cons (.tup (sqT_tu hl (.ofS s2)) (dpAll_tu _ _ (gd_sk _) hd (.ofS s2))) .nil))) .nil)))
  have e : ((f : Int) + (k : Int)) = ((f + k : Nat) : Int) := (Int.natCast_add f k).symm
  rw [e]
  exact .int _
theorem ok_moved (T : Txt K mg) : FnOk P w K mg base CX0 1 T.f_moved T.fd_moved ["step", "distance"] (spMoved K) := by
  refine T.F_moved.ok sc_moved (fun vs H Q E h => ?_) (fun cdv A outer s H vs Q E hr h => ?_)
  · obtain ⟨v, k, s, rfl, _⟩ := h
    rfl
  · obtain ⟨v, k, s, rfl, hd, hg, h⟩ := h
    cases s with
    | oth kk c dd =>
      obtain ⟨t, x, y, rfl, h1, h2, h3⟩ := step_oth hd
      have hk : ¬ V.str kk = V.str "resolve" := fun z => hg.2.2 (V.str.inj z)
      refine ⟨_, (pss_cons (ps_asg (pv 0) (pg_tup (by rfl) (pgs_cons (pg_name (i := 2) sc_moved.nd rfl (.inl rfl)) (pgs_cons (pg_name (i := 3) sc_moved.nd rfl (.inl rfl)) (pgs_cons (pg_name (i := 4) sc_moved.nd rfl (.inl rfl)) pgs_nil)))))
 (pss_cons (ps_if (pt_cmpR op_ne (pv 2) pe_str (nomark _)) (pss_one (ps_ret (pv 0))) pss_nil)
 (pss_cons (ps_asg (pv 4) (pg_tup (by rfl) (pgs_cons (pg_name (i := 5) sc_moved.nd rfl (.inl rfl)) (pgs_cons (pg_name (i := 6) sc_moved.nd rfl (.inl rfl)) pgs_nil))))
 (pss_cons (ps_setLc (i := 7) (own := [("literal", 8), ("number", 9)]) (tt := tYes) (g := gTup K 2 (gCons (gName 8) (gCons (gName 9) gNil))) (by rfl) sc_moved.nd rfl rfl (sw_true rfl rfl rfl (by decide +kernel)) (pi_tup (pv 6)) (blkOk_by (own := [("literal", 8), ("number", 9)]) (N := N_moved) (sc := defScope s_moved) (by decide +kernel)) (fun _ _ _ _ _ => pg_tup (by rfl) (pgs_cons (pg_name (i := 8) sc_moved.nd rfl (Or.inl rfl)) (pgs_cons (pg_name (i := 9) sc_moved.nd rfl (Or.inl rfl)) pgs_nil))) (fun _ _ _ _ _ => pts_nil) (fun _ _ _ _ _ => (pe_tup (pa_cons (pv 8) (pa_cons (pe_op op_add (pv 9) (pv 1)) pa_nil)))))
 (pss_one (ps_ret (pe_tup (pa_cons (pv 2) (pa_cons (pv 3) (pa_cons (pe_tup (pa_cons (pe_op op_add (pv 5) (pv 1)) (pa_cons (pe_callTy DT.call_tupleZ (by rfl) T.m_tuple (by decide +kernel) (pa_cons (pv 7) pa_nil)) pa_nil))) pa_nil)))))))))), ?_⟩
      refine Z.w_start (σ' := [some (.ref t), some (.int (k:Int)), none, none, none, none, none, none, none, none]) rfl ?_
      walk_at "w"
      exact h _ _ (Same.refl _) hd
    | res c f sk =>
      obtain ⟨t, x, y, u, ws, rfl, h1, h2, h3, h4, h5⟩ := step_res hd
      have hl := DpAll.len h5
      rw [List.length_map] at hl
      have hsk : sk.length ≤ 50 := hg.2.2
      have hgc := gd_parts hg rfl
      refine ⟨_, (pss_cons (ps_asg (pv 0) (pg_tup (by rfl) (pgs_cons (pg_name (i := 2) sc_moved.nd rfl (.inl rfl)) (pgs_cons (pg_name (i := 3) sc_moved.nd rfl (.inl rfl)) (pgs_cons (pg_name (i := 4) sc_moved.nd rfl (.inl rfl)) pgs_nil)))))
 (pss_cons (ps_if (pt_cmpR op_ne (pv 2) pe_str (nomark _)) (pss_one (ps_ret (pv 0))) pss_nil)
 (pss_cons (ps_asg (pv 4) (pg_tup (by rfl) (pgs_cons (pg_name (i := 5) sc_moved.nd rfl (.inl rfl)) (pgs_cons (pg_name (i := 6) sc_moved.nd rfl (.inl rfl)) pgs_nil))))
 (pss_cons (ps_setLc (i := 7) (own := [("literal", 8), ("number", 9)]) (tt := tYes) (g := gTup K 2 (gCons (gName 8) (gCons (gName 9) gNil))) (by rfl) sc_moved.nd rfl rfl (sw_true rfl rfl rfl (by decide +kernel)) (pi_tup (pv 6)) (blkOk_by (own := [("literal", 8), ("number", 9)]) (N := N_moved) (sc := defScope s_moved) (by decide +kernel)) (fun _ _ _ _ _ => pg_tup (by rfl) (pgs_cons (pg_name (i := 8) sc_moved.nd rfl (Or.inl rfl)) (pgs_cons (pg_name (i := 9) sc_moved.nd rfl (Or.inl rfl)) pgs_nil))) (fun _ _ _ _ _ => pts_nil) (fun _ _ _ _ _ => (pe_tup (pa_cons (pv 8) (pa_cons (pe_op op_add (pv 9) (pv 1)) pa_nil)))))
 (pss_one (ps_ret (pe_tup (pa_cons (pv 2) (pa_cons (pv 3) (pa_cons (pe_tup (pa_cons (pe_op op_add (pv 5) (pv 1)) (pa_cons (pe_callTy DT.call_tupleZ (by rfl) T.m_tuple (by decide +kernel) (pa_cons (pv 7) pa_nil)) pa_nil))) pa_nil)))))))))), ?_⟩
      refine Z.w_start (σ' := [some (.ref t), some (.int (k:Int)), none, none, none, none, none, none, none, none]) rfl ?_
      walk_at "w"
      refine Z.w_iteNF vRES ?_
      walk_at "w"
      refine fun D hD => lc_tup (K := K) (xs := ws) (fun i H' => Same H H' ∧ i ≤ 50 ∧ ∃ vs, H' D = some (.lst vs) ∧ DpAll K H' vs (((sk.take i).map fun x => (x.1, x.2 + k)).map skD)) ?_ ?_ ?_ ?_
      · exact ⟨same_of (Same.refl _) hD, by decide, [], upd_same, .nil⟩
      · rintro i H' _ ⟨sm, _⟩
        exact sqT_tu h4 (.ofS sm)
      · rintro i v H' hv ⟨sm, hi, vs, e2, dv⟩
        obtain ⟨p, t2, k1, rfl, k2⟩ := sk_dp h5 hv
        have hil : i < sk.length := (List.getElem?_eq_some_iff.mp k1).1
        have k2' := sqT_tu k2 (.ofS sm)
        show gTup K 2 (gCons (gName 8) (gCons (gName 9) gNil)) (.ref t2) [some (.ref t), some (.int (k : Int)), some (.str RES), some x, some (.ref y), some (.int (f : Int)), some (.ref u), none, none, none] H' _
        refine Z.w_gtup k2' rfl ?_
        walk_at "w"
        rename_i t3 ht3
        have s3 := same_of (Same.refl H') ht3 (o := .tup [.int p.1, .int ((p.2 : Int) + (k : Int))])
        refine ⟨vs, s3 _ _ e2, ?_, same_mut (sm.trans s3) hD, by omega, _, upd_same, ?_⟩
        · rw [DpAll.len dv, List.length_map, List.length_map, List.length_take]
          exact Nat.lt_of_le_of_lt (Nat.min_le_left _ _) (Nat.lt_trans (show i < 1000 by omega) (by decide))
        · rw [sk_snoc k1]
          have tu : Tu H' (upd (upd H' t3 (.tup [.int p.1, .int ((p.2 : Int) + (k : Int))])) D (.lst (vs ++ [.ref t3]))) := Tu.of ((Mo.of s3).trans ((Mo.refl _).lst (s3 _ _ e2)))
          have nt : t3 ≠ D := by
            rintro rfl
            rw [e2] at ht3
            cases ht3
          have e : ((p.2 : Int) + (k : Int)) = ((p.2 + k : Nat) : Int) := (Int.natCast_add p.2 k).symm
          refine DpAll.app (dpAll_tu _ _ (gd_sk _) dv tu) (.cons (.tup (xs := [.int p.1, .int ((p.2 : Int) + (k : Int))]) (.inl (.inl ?_)) (.cons (.int _) (.cons ?_ .nil))) .nil)
          · rw [upd_ne nt, upd_same]
          · rw [e]
            exact .int _
      · rintro H' ⟨sm, _, vs, e2, dv⟩
        rw [hl, List.take_length] at dv
        walk_at "w"
        refine ⟨D, vs, rfl, .inl (.inl e2), fun l o hl4 hb => ?_⟩
        have s4 := same_of (Same.refl H') hl4 (o := .frz o (.tup vs))
        walk_at "w"
        rename_i p5 hp5 p6 hp6
        refine h _ _ ((sm.trans s4).trans (same_of (same_of (Same.refl _) hp5) hp6)) (b_res (o1 := .tup []) (o2 := .tup []) (dp_tu c _ hgc h2 (.ofS (sm.trans s4))) (.inl (.inr ⟨o, upd_same⟩)) (dpAll_tu _ _ (gd_sk _) dv (.ofS s4)) hgc hp5 hp6)
theorem ok_Lmoved (T : Txt K mg) : FnOk P w K mg base CX0 1 T.f_Lmoved T.fd_Lmoved ["_law_step_here", "_law_start"] (spMoved K) := by
  refine T.F_Lmoved.ok sc_Lmoved (fun vs H Q E h => ?_) (fun cdv A outer s H vs Q E hr h => ?_)
  · obtain ⟨v, k, s, rfl, _⟩ := h
    rfl
  · obtain ⟨v, k, s, rfl, hd, hg, h⟩ := h
    cases s with
    | oth kk c dd =>
      obtain ⟨t, x, y, rfl, h1, h2, h3⟩ := step_oth hd
      have hk : ¬ V.str kk = V.str "resolve" := fun z => hg.2.2 (V.str.inj z)
      refine ⟨_, (pss_cons (ps_if (pt_cmpR op_ne (pe_ix ix_tup (pv 0) pe_int (fun _ _ => rfl)) pe_str (nomark _)) (pss_one (ps_ret (pv 0))) pss_nil)
 (pss_one (ps_ret (pe_tup (pa_cons (pe_ix ix_tup (pv 0) pe_int (fun _ _ => rfl)) (pa_cons (pe_ix ix_tup (pv 0) pe_int (fun _ _ => rfl)) (pa_cons (pe_tup (pa_cons (pe_op op_add (pe_ix ix_tup (pe_ix ix_tup (pv 0) pe_int (fun _ _ => rfl)) pe_int (fun _ _ => rfl)) (pv 1)) (pa_cons (pe_callTy DT.call_tupleZ (by rfl) T.m_tuple (by decide +kernel) (pa_cons (pe_lc (own := [("_law_pair", 2)]) (g := gName 2) (tt := tYes) (by rfl) sc_Lmoved.nd (pi_tup (pe_ix ix_tup (pe_ix ix_tup (pv 0) pe_int (fun _ _ => rfl)) pe_int (fun _ _ => rfl))) (blkOk_by (own := [("_law_pair", 2)]) (N := N_Lmoved) (sc := defScope s_Lmoved) (by decide +kernel)) (fun _ _ _ _ _ => pg_name (i := 2) sc_Lmoved.nd rfl (Or.inl rfl)) (fun _ _ _ _ _ => pts_nil) (fun _ _ _ _ _ => (pe_tup (pa_cons (pe_ix (show IxR _ (rIxT K) from ix_tup) (pv 2) pe_int (fun _ _ => rfl)) (pa_cons (pe_op op_add (pe_ix (show IxR _ (rIxT K) from ix_tup) (pv 2) pe_int (fun _ _ => rfl)) (pv 1)) pa_nil))))) pa_nil)) pa_nil))) pa_nil))))))), ?_⟩
      refine Z.w_start (σ' := [some (.ref t), some (.int (k:Int)), none]) rfl ?_
      walk_at "w"
      exact h _ _ (Same.refl _) hd
    | res c f sk =>
      obtain ⟨t, x, y, u, ws, rfl, h1, h2, h3, h4, h5⟩ := step_res hd
      have hl := DpAll.len h5
      rw [List.length_map] at hl
      have hsk : sk.length ≤ 50 := hg.2.2
      have hgc := gd_parts hg rfl
      refine ⟨_, (pss_cons (ps_if (pt_cmpR op_ne (pe_ix ix_tup (pv 0) pe_int (fun _ _ => rfl)) pe_str (nomark _)) (pss_one (ps_ret (pv 0))) pss_nil)
 (pss_one (ps_ret (pe_tup (pa_cons (pe_ix ix_tup (pv 0) pe_int (fun _ _ => rfl)) (pa_cons (pe_ix ix_tup (pv 0) pe_int (fun _ _ => rfl)) (pa_cons (pe_tup (pa_cons (pe_op op_add (pe_ix ix_tup (pe_ix ix_tup (pv 0) pe_int (fun _ _ => rfl)) pe_int (fun _ _ => rfl)) (pv 1)) (pa_cons (pe_callTy DT.call_tupleZ (by rfl) T.m_tuple (by decide +kernel) (pa_cons (pe_lc (own := [("_law_pair", 2)]) (g := gName 2) (tt := tYes) (by rfl) sc_Lmoved.nd (pi_tup (pe_ix ix_tup (pe_ix ix_tup (pv 0) pe_int (fun _ _ => rfl)) pe_int (fun _ _ => rfl))) (blkOk_by (own := [("_law_pair", 2)]) (N := N_Lmoved) (sc := defScope s_Lmoved) (by decide +kernel)) (fun _ _ _ _ _ => pg_name (i := 2) sc_Lmoved.nd rfl (Or.inl rfl)) (fun _ _ _ _ _ => pts_nil) (fun _ _ _ _ _ => (pe_tup (pa_cons (pe_ix (show IxR _ (rIxT K) from ix_tup) (pv 2) pe_int (fun _ _ => rfl)) (pa_cons (pe_op op_add (pe_ix (show IxR _ (rIxT K) from ix_tup) (pv 2) pe_int (fun _ _ => rfl)) (pv 1)) pa_nil))))) pa_nil)) pa_nil))) pa_nil))))))), ?_⟩
      refine Z.w_start (σ' := [some (.ref t), some (.int (k:Int)), none]) rfl ?_
      walk_at "w"
      refine Z.w_iteNF vRES ?_
      walk_at "w"
      refine fun D hD => lc_tup (K := K) (xs := ws) (fun i H' => Same H H' ∧ i ≤ 50 ∧ ∃ vs, H' D = some (.lst vs) ∧ DpAll K H' vs (((sk.take i).map fun x => (x.1, x.2 + k)).map skD)) ?_ ?_ ?_ ?_
      · exact ⟨same_of (Same.refl _) hD, by decide, [], upd_same, .nil⟩
      · rintro i H' _ ⟨sm, _⟩
        exact sqT_tu h4 (.ofS sm)
      · rintro i v H' hv ⟨sm, hi, vs, e2, dv⟩
        obtain ⟨p, t2, k1, rfl, k2⟩ := sk_dp h5 hv
        have hil : i < sk.length := (List.getElem?_eq_some_iff.mp k1).1
        have k2' := sqT_tu k2 (.ofS sm)
        refine Z.w_gname (σ' := [some (.ref t), some (.int (k : Int)), some (.ref t2)]) rfl ⟨rfl, ?_⟩
        walk_at "w"
        rename_i t3 ht3
        have s3 := same_of (Same.refl H') ht3 (o := .tup [.int p.1, .int ((p.2 : Int) + (k : Int))])
        refine ⟨vs, s3 _ _ e2, ?_, same_mut (sm.trans s3) hD, by omega, _, upd_same, ?_⟩
        · rw [DpAll.len dv, List.length_map, List.length_map, List.length_take]
          exact Nat.lt_of_le_of_lt (Nat.min_le_left _ _) (Nat.lt_trans (show i < 1000 by omega) (by decide))
        · rw [sk_snoc k1]
          have tu : Tu H' (upd (upd H' t3 (.tup [.int p.1, .int ((p.2 : Int) + (k : Int))])) D (.lst (vs ++ [.ref t3]))) := Tu.of ((Mo.of s3).trans ((Mo.refl _).lst (s3 _ _ e2)))
          have nt : t3 ≠ D := by
            rintro rfl
            rw [e2] at ht3
            cases ht3
          have e : ((p.2 : Int) + (k : Int)) = ((p.2 + k : Nat) : Int) := (Int.natCast_add p.2 k).symm
          refine DpAll.app (dpAll_tu _ _ (gd_sk _) dv tu) (.cons (.tup (xs := [.int p.1, .int ((p.2 : Int) + (k : Int))]) (.inl (.inl ?_)) (.cons (.int _) (.cons ?_ .nil))) .nil)
          · rw [upd_ne nt, upd_same]
          · rw [e]
            exact .int _
      · rintro H' ⟨sm, _, vs, e2, dv⟩
        rw [hl, List.take_length] at dv
        walk_at "w"
        refine ⟨D, vs, rfl, .inl (.inl e2), fun l o hl4 hb => ?_⟩
        have s4 := same_of (Same.refl H') hl4 (o := .frz o (.tup vs))
        walk_at "w"
        rename_i p5 hp5 p6 hp6
        refine h _ _ ((sm.trans s4).trans (same_of (same_of (Same.refl _) hp5) hp6)) (b_res (o1 := .tup []) (o2 := .tup []) (dp_tu c _ hgc h2 (.ofS (sm.trans s4))) (.inl (.inr ⟨o, upd_same⟩)) (dpAll_tu _ _ (gd_sk _) dv (.ofS s4)) hgc hp5 hp6)
/-! trim -/
theorem fresh_of {H H' : Hp} {p : Addr} (s : Same H H') (h : H' p = none) : H p = none := by
  cases e : H p with
  | none => rfl
  | some o => rw [s _ _ e] at h; cases h
def spTrim (K : PySem.W.Frag) : Sp := fun vs H Q _ => ∃ (a : Addr) (us : List V) (ss : List Stp), vs = [.ref a] ∧ H a = some (.lst us) ∧ StV K H us ss ∧ AllG ss ∧ Ok ss ∧ ss.length ≤ 60 ∧ ∀ p ws ns H', H p = none → Same H H' → H' p = some (.lst ws) → KL ss ns → StV K H' ws (trimL ss ns) → Q (.ref p) H'
theorem use_trim {a : Addr} {us : List V} {ss : List Stp} {H : Hp} {Q : VK} {E : XK} (h1 : H a = some (.lst us)) (h2 : StV K H us ss) (h3 : AllG ss) (h4 : Ok ss) (h5 : ss.length ≤ 60) (h : ∀ p ws ns H', H p = none → Same H H' → H' p = some (.lst ws) → KL ss ns → StV K H' ws (trimL ss ns) → Q (.ref p) H') : spTrim K [.ref a] H Q E := ⟨a, us, ss, rfl, h1, h2, h3, h4, h5, h⟩
def inz (ns : List Nat) : List Int := ns.map fun n : Nat => (n : Int)
theorem nint_inz (ns : List Nat) : nint ns = (inz ns).map V.int := by
  unfold nint inz
  rw [List.map_map]
  rfl
theorem mem_inz {ns : List Nat} {n : Nat} : (n : Int) ∈ inz ns ↔ n ∈ ns := by
  unfold inz
  rw [List.mem_map]
  exact ⟨fun ⟨m, hm, e⟩ => (Int.ofNat.inj e) ▸ hm, fun h => ⟨n, h, rfl⟩⟩
theorem kd_merge : ∀ (us ks : List Int), mergeK (kd ks) (kd us) = kd (addAll ks us)
  | [], ks => rfl
  | x :: us, ks => by
    have e : mergeK (kd ks) (kd (x :: us)) = mergeK (putK (kd ks) (Sum.inl x) (.bl true)) (kd us) := rfl
    rw [e, kd_put, kd_merge us, addAll_cons]
/-- what is known of the needed ones behind the numbers from m on -/
def NeedI (ss : List Stp) (ks : List Int) (m : Nat) : Prop := ks.Nodup ∧ (∀ x ∈ ks, ∃ n : Nat, x = (n : Int) ∧ Reach ss n) ∧ (∀ n, ss.length = n + 1 → (n : Int) ∈ ks) ∧ ∀ (n : Nat) (s : Stp), (n : Int) ∈ ks → m ≤ n → ss[n]? = some s → ∀ u ∈ uses s, (u : Int) ∈ ks
theorem need_len {ss : List Stp} {ks : List Int} {m : Nat} (hok : Ok ss) (h : NeedI ss ks m) : ks.length ≤ ss.length := nodup_len h.1 fun x hx => by
  obtain ⟨n, rfl, r⟩ := h.2.1 x hx
  have := reach_lt hok r
  omega
theorem need_reach {ss : List Stp} {ks : List Int} (h : NeedI ss ks 0) (n : Nat) : (n : Int) ∈ ks ↔ Reach ss n :=
  closed_reach (P := fun n => (n : Int) ∈ ks) (fun n hn => by
    obtain ⟨m, e, r⟩ := h.2.1 _ hn
    obtain rfl : n = m := Int.ofNat.inj e
    exact r) h.2.2.1 (fun n s hn hs u hu => h.2.2.2 n s hn (Nat.zero_le _) hs u hu) n
theorem need_skip {ss : List Stp} {ks : List Int} {m : Nat} (h : NeedI ss ks (m + 1)) (hm : (m : Int) ∉ ks) : NeedI ss ks m := ⟨h.1, h.2.1, h.2.2.1, fun n s hn hmn hs u hu => by
  rcases Nat.lt_or_eq_of_le hmn with z | z
  · exact h.2.2.2 n s hn z hs u hu
  · subst z
    exact absurd hn hm⟩
theorem need_add {ss : List Stp} {ks : List Int} {m : Nat} {s : Stp} (hok : Ok ss) (h : NeedI ss ks (m + 1)) (hm : (m : Int) ∈ ks) (hs : ss[m]? = some s) : NeedI ss (addAll ks (addAll [] (inz (uses s)))) m := by
  have hr : Reach ss m := by
    obtain ⟨n, e, r⟩ := h.2.1 _ hm
    obtain rfl : m = n := Int.ofNat.inj e
    exact r
  have hmem : ∀ y : Int, y ∈ addAll ks (addAll [] (inz (uses s))) ↔ y ∈ ks ∨ y ∈ inz (uses s) := fun y => by
    rw [addAll_mem, addAll_mem]
    simp
  refine ⟨addAll_nodup h.1, fun x hx => ?_, fun n e => (hmem _).mpr (.inl (h.2.2.1 n e)), fun n t hn hmn ht u hu => ?_⟩
  · rcases (hmem x).mp hx with z | z
    · exact h.2.1 x z
    · obtain ⟨u, hu, rfl⟩ := List.mem_map.mp z
      exact ⟨u, rfl, .use hr hs hu⟩
  · rcases Nat.lt_or_eq_of_le hmn with z | z
    · rcases (hmem _).mp hn with y | y
      · exact (hmem _).mpr (.inl (h.2.2.2 n t y z ht u hu))
      · have := hok _ _ hs n (mem_inz.mp y)
        omega
    · subst z
      rw [hs] at ht
      obtain rfl := Option.some.inj ht
      exact (hmem _).mpr (.inr (mem_inz.mpr hu))
end
end L

namespace L
open PySem PySem.Spec PyProof.Rows L2 Z M DT MK
section
variable {P : Program} {w : World} {K : PySem.W.Frag} {mg : Str → Option Value} {base : Heap}
/-- a dict comprehension over a walk -/
theorem dc_it {J : It} {n : Nat} {G : Hp → Prop} {Y : Nat → Hp → V → Hp → Prop} (w : Walk J n G Y) {g : TG} {tt : TT} {tk tv : TE} {vs : List Nat} {σ : L2.St} {H1 : Hp} {D : Addr} {Qd : Hp → Prop} (Pv : Nat → Hp → Prop) (h0 : Pv 0 (upd H1 D (.dK []))) (hG : ∀ i H, i ≤ n → Pv i H → G H)
    (hs : ∀ i x H H', i < n → Pv i H → Y i H x H' → g x (wipe σ vs) H' fun σ2 H2 => wipe σ2 vs = wipe σ vs ∧ tt σ2 H2 fun b H3 =>
      if b = true then tk σ2 H3 fun y H4 => tv σ2 H4 fun z H5 => ∃ kvs k, y = kV k ∧ H5 D = some (.dK kvs) ∧ kvs.length < sizeLine ∧ Pv (i + 1) (upd H5 D (.dK (putK kvs k z))) else Pv (i + 1) H3) (hd : ∀ H, Pv n H → Qd H) :
    ∃ W : Nat → Nat → Hp → Prop, (∃ m, W 0 m (upd H1 D (.dK []))) ∧ ∀ i m H, W i m H →
      (J.stop i H ∧ Qd H) ∨ (J.go i H ∧ ∃ Nx : Hp → Prop, (∀ H', Nx H' → ∃ m', m' < m ∧ W (i + 1) m' H') ∧ ∀ x H', J.yld i H x H' → g x (wipe σ vs) H' fun σ2 H2 => wipe σ2 vs = wipe σ vs ∧ tt σ2 H2 fun b H3 =>
        if b = true then tk σ2 H3 fun y H4 => tv σ2 H4 fun z H5 => ∃ kvs k, y = kV k ∧ H5 D = some (.dK kvs) ∧ kvs.length < sizeLine ∧ Nx (upd H5 D (.dK (putK kvs k z))) else Nx H3) := by
  refine ⟨fun i m H => m = n - i ∧ i ≤ n ∧ Pv i H, ⟨n, by simp, Nat.zero_le _, h0⟩, ?_⟩
  rintro i m H ⟨rfl, hi, p⟩
  have q := hG i H hi p
  by_cases hlt : i < n
  · refine .inr ⟨w.goes i H hlt q, Pv (i + 1), fun H' p' => ⟨n - (i + 1), by omega, rfl, hlt, p'⟩, fun x H' y => hs i x H H' hlt p (w.yields i H x H' hlt q y)⟩
  · have e : i = n := by omega
    subst e
    exact .inl ⟨w.stops H q, hd H p⟩
theorem w_dc {wi : TI} {g : TG} {tt : TT} {tk tv : TE} {ivs : List Nat} {σ : L2.St} {H : Hp} {Q : VK} (h : wi σ H fun J H1 => ∀ D, H1 D = none → ∃ W : Nat → Nat → Hp → Prop, (∃ m, W 0 m (upd H1 D (.dK []))) ∧ ∀ i m H, W i m H →
  (J.stop i H ∧ Q (.ref D) H) ∨ (J.go i H ∧ ∃ Nx : Hp → Prop, (∀ H', Nx H' → ∃ m', m' < m ∧ W (i + 1) m' H') ∧ ∀ x H', J.yld i H x H' → g x (wipe σ ivs) H' fun σ2 H2 => wipe σ2 ivs = wipe σ ivs ∧ tt σ2 H2 fun b H3 =>
    if b = true then tk σ2 H3 fun y H4 => tv σ2 H4 fun z H5 => ∃ kvs k, y = kV k ∧ H5 D = some (.dK kvs) ∧ kvs.length < sizeLine ∧ Nx (upd H5 D (.dK (putK kvs k z))) else Nx H3)) : tDc wi g tt tk tv ivs σ H Q := h
/-- the dict at the start -/
theorem need_start {trs : List (TE × TE)} {σ : L2.St} {a : Addr} {us : List V} {ss : List Stp} {H : Hp} {Qr : VK} (ha : H a = some (.lst us)) (hl : us.length = ss.length)
    (hp : ∀ p, H p = none → 0 < ss.length → ∀ Q2 : List (V × V) → Hp → Prop, Q2 [(.int ((ss.length : Int) - 1), .bl true)] (upd H p (.dK [])) → tPairs trs σ (upd H p (.dK [])) Q2)
    (h : ∀ d ks, H d = none → NeedI ss ks ss.length → Qr (.ref d) (upd H d (.dK (kd ks)))) :
    ∃ k, TruV K (V.ref a) H k ∧ (fun c H1 => if c = true then tDisp trs σ H1 Qr else tDNewK σ H1 Qr) k H := by
  refine ⟨!us.isEmpty, .inl ⟨us, .inl (.inl ha), rfl⟩, ?_⟩
  cases us with
  | nil =>
    have e : ss = [] := List.eq_nil_of_length_eq_zero hl.symm
    subst e
    show tDNewK σ H Qr
    intro d hd
    refine h d [] hd ⟨List.nodup_nil, fun x hx => by simp at hx, fun n e => by simp at e, fun n s hn => by simp at hn⟩
  | cons u us =>
    have hpos : 0 < ss.length := by rw [← hl]; simp
    show tDisp trs σ H Qr
    intro d hd
    refine hp d hd hpos _ ⟨upd_same, [(Sum.inl ((ss.length : Int) - 1), .bl true)], rfl, by simp, ?_⟩
    rw [upd_upd]
    refine h d [(ss.length : Int) - 1] hd ⟨by simp, fun x hx => ?_, fun n e => ?_, fun n s hn hm hs => ?_⟩
    · obtain rfl := List.mem_singleton.mp hx
      exact ⟨ss.length - 1, by omega, .last (by omega)⟩
    · rw [e]
      exact List.mem_singleton.mpr (by omega)
    · have := (List.getElem?_eq_some_iff.mp hs).1
      omega
def Pl (ns : List Nat) (i : Nat) (kvs : List (Key × V)) : Prop := kvs.length ≤ i ∧ ∀ u ∈ ns.take i, valV kvs (Sum.inl (u : Int)) = some (.int (posn ns u : Int))
theorem pl_zero (ns : List Nat) : Pl ns 0 [] := ⟨Nat.le_refl _, fun u hu => by simp at hu⟩
theorem pl_next {ns : List Nat} {i n : Nat} {kvs : List (Key × V)} (h : Pl ns i kvs) (hp : ns.Pairwise (· < ·)) (hn : ns[i]? = some n) : Pl ns (i + 1) (putK kvs (Sum.inl (n : Int)) (.int (i : Int))) := by
  obtain ⟨h1, h2⟩ := h
  refine ⟨Nat.le_trans (length_putK _ _ _) (by omega), fun u hu => ?_⟩
  rw [valV_put]
  by_cases e : u = n
  · subst e
    rw [if_pos rfl]
    obtain ⟨hi, e2⟩ := List.getElem?_eq_some_iff.mp hn
    have := posn_at hp hi
    rw [e2] at this
    rw [this]
  · have e9 : ¬ (Sum.inl (u : Int) : Key) = Sum.inl (n : Int) := fun z => e (Int.ofNat.inj (Sum.inl.inj z))
    rw [if_neg e9]
    rw [List.take_add_one, hn] at hu
    rcases List.mem_append.mp hu with z | z
    · exact h2 u z
    · exact absurd (by simpa using z) e
theorem need_sorted {ss : List Stp} {ks ys : List Int} (h : NeedI ss ks 0) (hp : ys.Perm ks) (hs : ys.Pairwise (· ≤ ·)) : ∃ ns : List Nat, ys.map V.int = nint ns ∧ KL ss ns ∧ ns.length = ys.length := by
  have hnn : ∀ y ∈ ys, ∃ n : Nat, y = (n : Int) ∧ Reach ss n := fun y hy => h.2.1 y (hp.mem_iff.mp hy)
  have e : ys = inz (ys.map Int.toNat) := by
    unfold inz
    rw [List.map_map]
    conv => lhs; rw [← List.map_id ys]
    refine List.map_congr_left fun y hy => ?_
    obtain ⟨n, rfl, _⟩ := hnn y hy
    rfl
  have nd : ys.Nodup := hp.nodup_iff.mpr h.1
  refine ⟨ys.map Int.toNat, by rw [nint_inz, ← e], ⟨?_, fun n => ?_⟩, List.length_map _⟩
  · refine List.pairwise_map.mpr (List.Pairwise.imp_of_mem ?_ (hs.and nd))
    intro a b ha hb ⟨h1, h2⟩
    obtain ⟨m, rfl, _⟩ := hnn a ha
    obtain ⟨n, rfl, _⟩ := hnn b hb
    simp only [Int.toNat_natCast]
    omega
  · rw [← need_reach h, ← hp.mem_iff]
    constructor
    · intro hm
      rw [e]
      exact mem_inz.mpr hm
    · intro hm
      rw [e] at hm
      exact mem_inz.mp hm
theorem kl_len {ss : List Stp} {ns : List Nat} (hok : Ok ss) (h : KL ss ns) : ns.length ≤ ss.length := by
  have hn : ns.Nodup := h.1.imp fun h => Nat.ne_of_lt h
  have hs : ns ⊆ List.range ss.length := fun x hx => List.mem_range.mpr (reach_lt hok ((h.2 x).mp hx))
  have := List.Nodup.length_le_of_subset hn hs
  rwa [List.length_range] at this
theorem uses_len {s : Stp} (h : GoodS s) : (uses s).length ≤ 51 := by
  cases s with
  | oth _ _ _ => exact Nat.zero_le _
  | res c f sk =>
    have := h.2.2
    show (f :: sk.map (·.2)).length ≤ 51
    simp only [List.length_cons, List.length_map]
    exact Nat.succ_le_succ this
theorem addAll_len : ∀ (us ks : List Int), (addAll ks us).length ≤ ks.length + us.length
  | [], ks => Nat.le_refl _
  | x :: us, ks => by
    rw [addAll_cons]
    refine Nat.le_trans (addAll_len us _) ?_
    split <;> simp <;> omega
theorem nint_get {us : List Nat} {j : Nat} {x : V} (h : (nint us)[j]? = some x) : ∃ n, us[j]? = some n ∧ x = .int (n : Int) ∧ (inz us).take (j + 1) = (inz us).take j ++ [(n : Int)] := by
  unfold nint at h
  rw [List.getElem?_map] at h
  cases e : us[j]? with
  | none => rw [e] at h; cases h
  | some n =>
    rw [e] at h
    obtain rfl := Option.some.inj h
    refine ⟨n, rfl, rfl, ?_⟩
    unfold inz
    rw [List.take_add_one, List.getElem?_map, e]
    rfl
theorem nint_len (us : List Nat) : (nint us).length = us.length := List.length_map _
theorem inz_len (us : List Nat) : (inz us).length = us.length := List.length_map _
theorem ok_trim (T : Txt K mg) : FnOk P w K mg base CX0 2 T.f_trim T.fd_trim ["steps"] (spTrim K) := by
  have G_used_numbers := ok_used (P := P) (w := w) (base := base) T
  have G_renumbered := ok_renum (P := P) (w := w) (base := base) T
  refine T.F_trim.ok sc_trim (fun vs H Q E h => ?_) (fun cdv A outer s H vs Q E hr h => ?_)
  · obtain ⟨a, us, ss, rfl, _⟩ := h
    rfl
  · obtain ⟨a, us, ss, rfl, ha, hv, hg, hok, hlen, h⟩ := h
    have hvl := hv.len
    refine ⟨_, (pss_cons (ps_set (i := 1) sc_trim.nd rfl (.inl rfl) (pe_ifExp (pt_truth (pv 0) (by intro _; rfl)) (pe_disp (pps_cons (pe_op op_sub (pe_callB call_len_seq (by rfl) T.m_len (by decide +kernel) (pa_cons (pv 0) pa_nil)) pe_int) pe_bl pps_nil) (by rfl) (by rfl) (fun z => by cases z) (by decide)) pe_dnewK))
 (pss_cons (ps_for PassesOwn.never rfl (pi_revR (by rfl) T.m_reversed (prg_1 (by rfl) T.m_range (pe_callB call_len_seq (by rfl) T.m_len (by decide +kernel) (pa_cons (pv 0) pa_nil)))) (pg_name (i := 2) sc_trim.nd rfl (.inl rfl)) (pss_one (ps_if (pt_cmp (pc_din (hu_of hr) (pv 2) (pv 1))) (pss_one (ps_expr (pe_bm PySem.F.plainAttrs_dict PySem.F.slot_dict_update PySem.F.type_dict_update DT.mt_update (pv 1) (pa_cons (pe_dc (own := [("used", 3)]) (g := gName 3) (tt := tYes) (by rfl) sc_trim.nd (pi_list (pe_call G_used_numbers (hr.mono (by first | decide | omega)) (by rfl) T.g_used_numbers T.F_used_numbers.kp T.b_used_numbers .nil pass0 (pa_cons (pe_ix ix_list (pv 0) (pv 2) (fun _ _ => rfl)) pa_nil))) (blkOk_by (own := [("used", 3)]) (N := N_trim) (sc := defScope s_trim) (by decide +kernel)) (fun _ _ _ _ _ => pg_name (i := 3) sc_trim.nd rfl (Or.inl rfl)) (fun _ _ _ _ _ => pts_nil) (fun _ _ _ _ _ => (pv 3)) (fun _ _ _ _ _ => pe_bl)) pa_nil)))) pss_nil)))
 (pss_cons (ps_set (i := 4) sc_trim.nd rfl (.inl rfl) (pe_callB (call_sortedDI rfl) (by rfl) T.m_sorted (by decide +kernel) (pa_cons (pv 1) pa_nil)))
 (pss_cons (ps_set (i := 5) sc_trim.nd rfl (.inr rfl) (pe_dc (own := [("place", 6), ("number", 2)]) (g := gTup K 2 (gCons (gName 6) (gCons (gName 2) gNil))) (tt := tYes) (by rfl) sc_trim.nd (pi_enum (by rfl) T.m_enumerate (pa_cons (pv 4) pa_nil)) (blkOk_by (own := [("place", 6), ("number", 2)]) (N := N_trim) (sc := defScope s_trim) (by decide +kernel)) (fun _ _ _ _ _ => (pg_tup (by rfl) (pgs_cons (pg_name (i := 6) sc_trim.nd rfl (Or.inl rfl)) (pgs_cons (pg_name (i := 2) sc_trim.nd rfl (Or.inl rfl)) pgs_nil)))) (fun _ _ _ _ _ => pts_nil) (fun _ _ _ _ _ => (pv 2)) (fun _ _ _ _ _ => (pv 6))))
 (pss_one (ps_ret (pe_lc (own := [("number", 2)]) (g := gName 2) (tt := tYes) (by rfl) sc_trim.nd (pi_list (pv 4)) (blkOk_by (own := [("number", 2)]) (N := N_trim) (sc := defScope s_trim) (by decide +kernel)) (fun _ _ _ _ _ => pg_name (i := 2) sc_trim.nd rfl (Or.inl rfl)) (fun _ _ _ _ _ => pts_nil) (fun _ _ _ _ _ => (pe_call G_renumbered (hr.mono (by first | decide | omega)) (by rfl) T.g_renumbered T.F_renumbered.kp T.b_renumbered .nil pass0 (pa_cons (pe_ix (show IxR _ (rIxL K) from ix_list) (pv 0) (pv 2) (fun _ _ => rfl)) (pa_cons (pv 5) pa_nil))))))))))), ?_⟩
    refine Z.w_start (σ' := [some (.ref a), none, none, none, none, none, none]) rfl ?_
    walk_at "w"
    refine need_start ha hvl ?_ ?_
    · intro p hp hpos Q2 q2
      show tOp _ _ _ _ _ _
      walk_at "w"
      rw [hvl]
      exact q2
    · intro d ks hd hn
      have hda : d ≠ a := fun z => by subst z; rw [hd] at ha; cases ha
      walk_at "w"
      unfold iRevR tRg1
      walk_at "w"
      have e1 : (((us.length : Int) - 0).toNat) = ss.length := by omega
      refine ⟨by omega, by omega, by omega, by omega, ?_⟩
      rw [e1]
      refine for_rangeC (fun i σ H' => ∃ x2 ks, σ = [some (.ref a), some (.ref d), x2, none, none, none, none] ∧ Same H H' ∧ H' d = some (.dK (kd ks)) ∧ NeedI ss ks (ss.length - i) ∧ i ≤ ss.length) ?_ ?_ ?_
      · exact ⟨none, ks, rfl, same_of (Same.refl _) hd, upd_same, hn, Nat.zero_le _⟩
      · rintro i σ H' hi ⟨x2, ks, rfl, sm, e2, hn, hil⟩
        obtain ⟨m, hm⟩ : ∃ m, ss.length - i = m + 1 := ⟨ss.length - i - 1, by omega⟩
        have e3 : (0 : Int) + (ss.length : Int) - 1 + (i : Int) * (-1) = (m : Int) := by omega
        rw [e3]
        have hm2 : ss.length - (i + 1) = m := by omega
        rw [hm] at hn
        have hml : m < ss.length := by omega
        walk_at "w"
        refine ⟨d, _, rfl, DGet.k (k := Sum.inl (m : Int)) e2, ?_⟩
        rw [kd_get]
        walk_at "w"
        walk_at "wi"
        · rename_i hc
          have hgm := hg _ (List.getElem_mem hml)
          obtain ⟨v, _, ha1, hdv⟩ := hv.at hml
          have hSa : SqL K H' a us := .inl (.inl (sm _ _ ha))
          walk_at "w"
          refine Z.w_bm ?_
          walk_at "w"
          refine ⟨.inr (.inr (.inl ⟨rfl, .inl ⟨_, e2⟩⟩)), ?_⟩
          walk_at "w"
          refine w_dc ?_
          walk_at "w"
          refine use_used (dp_tu _ _ hgm.1 hdv (.ofS sm)) hgm fun p H2 s2 hp => ?_
          walk_at "w"
          have hSp : SqL K H2 p (nint (uses ss[m])) := .inl (.inl hp)
          refine fun D hD => ?_
          have hul := uses_len hgm
          refine dc_it (walk_list (K := K) (a := p) (xs := nint (uses ss[m]))) (fun j H3 => Same H2 H3 ∧ H3 D = some (.dK (kd (addAll [] ((inz (uses ss[m])).take j)))) ∧ j ≤ (uses ss[m]).length) ?_ ?_ ?_ ?_
          · exact ⟨same_of (Same.refl _) hD, upd_same, Nat.zero_le _⟩
          · rintro j H3 hj ⟨s3, _⟩
            exact .inl (.inl (s3 _ _ hp))
          · rintro j x H3 H4 hj ⟨s3, e4, hjl⟩ ⟨rfl, hx⟩
            obtain ⟨n, g1, rfl, g3⟩ := nint_get hx
            rw [nint_len] at hj
            refine Z.w_gname (σ' := [some (.ref a), some (.ref d), some (.int (m : Int)), some (.int (n : Int)), none, none, none]) rfl ⟨rfl, ?_⟩
            walk_at "w"
            refine ⟨_, Sum.inl (n : Int), rfl, e4, ?_, same_mut s3 hD, ?_, hj⟩
            · rw [kd_len]
              have h7 := addAll_len ((inz (uses ss[m])).take j) []
              rw [List.length_take] at h7
              refine Nat.lt_of_le_of_lt (Nat.le_trans h7 ?_) (show 100 < sizeLine by decide)
              simp only [List.length_nil]
              omega
            · rw [upd_same, kd_put, g3, addAll_snoc]
          · rintro H3 ⟨s3, e4, _⟩
            rw [nint_len] at e4
            rw [List.take_of_length_le (by rw [inz_len]; exact Nat.le_refl _)] at e4
            walk_at "w"
            have e5 := (s2.trans s3) _ _ e2
            refine ⟨d, D, _, _, rfl, rfl, ?_, e5, e4, ?_, ?_⟩
            · rintro rfl
              rw [s2 _ _ e2] at hD
              cases hD
            · rw [kd_len, kd_len]
              have h7 := addAll_len (inz (uses ss[m])) []
              rw [inz_len] at h7
              have h8 := need_len hok hn
              refine Nat.le_trans ?_ (show 200 ≤ sizeLine by decide)
              simp only [List.length_nil] at h7
              omega
            · walk_at "w"
              refine ⟨_, addAll ks (addAll [] (inz (uses ss[m]))), rfl, same_mut ((sm.trans s2).trans s3) hd, by rw [upd_same, kd_merge], ?_, hi⟩
              rw [hm2]
              exact need_add hok hn hc (List.getElem?_eq_getElem hml)
        · rename_i hc
          walk_at "w"
          refine ⟨_, ks, rfl, sm, e2, ?_, hi⟩
          rw [hm2]
          exact need_skip hn hc
      · rintro σ H' ⟨x2, ks, rfl, sm, e2, hn, hil⟩
        rw [Nat.sub_self] at hn
        walk_at "w"
        refine ⟨d, kd ks, ks, rfl, .inl e2, kd_keys ks, by have := need_len hok hn; omega, fun ys q hp hs hq => ?_⟩
        obtain ⟨ns, e5, hkl, hnl⟩ := need_sorted hn hp hs
        rw [e5]
        walk_at "w"
        have hkn := kl_len hok hkl
        have s3 := same_of sm hq (o := .lst (nint ns))
        refine w_dc ?_
        refine Z.w_cons ?_
        walk_at "w"
        refine ⟨q, nint ns, rfl, .inl (.inl upd_same), fun D hD => ?_⟩
        refine dc_it (walk_enum (K := K) (a := q) (xs := nint ns)) (fun j H3 => Same (upd H' q (.lst (nint ns))) H3 ∧ j ≤ ns.length ∧ ∃ kvs, H3 D = some (.dK kvs) ∧ Pl ns j kvs) ?_ ?_ ?_ ?_
        · exact ⟨same_of (Same.refl _) hD, Nat.zero_le _, [], upd_same, pl_zero ns⟩
        · rintro j H3 hj ⟨s4, _⟩
          exact .inl (.inl (s4 _ _ upd_same))
        · rintro j z H3 H4 hj ⟨s4, hjl, kvs, e4, hpl⟩ ⟨t, x, y, rfl, ht, rfl, ex, ey⟩
          obtain rfl := Option.some.inj ex
          obtain ⟨n, g1, rfl, g3⟩ := nint_get ey
          rw [nint_len] at hj
          show gTup K 2 (gCons (gName 6) (gCons (gName 2) gNil)) (.ref t) [some (.ref a), some (.ref d), none, none, some (.ref q), none, none] _ _
          refine Z.w_gtupH upd_same rfl ?_
          walk_at "w"
          have s5 := same_of (Same.refl H3) ht (o := .tup [.int (j : Int), .int (n : Int)])
          refine ⟨kvs, Sum.inl (n : Int), rfl, s5 _ _ e4, ?_, same_mut (s4.trans s5) hD, hj, _, upd_same, pl_next hpl hkl.1 g1⟩
          exact Nat.lt_of_le_of_lt hpl.1 (Nat.lt_trans (show j < 100 by omega) (by decide))
        · rintro H3 ⟨s4, _, kvs, e4, hpl⟩
          rw [nint_len] at hpl
          walk_at "w"
          have hpl2 := hpl.2
          rw [List.take_length] at hpl2
          have hSq : SqL K H3 q (nint ns) := .inl (.inl (s4 _ _ upd_same))
          refine ⟨⟨_, hSq⟩, fun L hL => ?_⟩
          have sH := s3.trans s4
          refine lc_list (K := K) (xs := nint ns) (fun j H5 => Same H3 H5 ∧ j ≤ ns.length ∧ ∃ ws, H5 L = some (.lst ws) ∧ StV K H5 ws ((trimL ss ns).take j)) ?_ ?_ ?_ ?_
          · exact ⟨same_of (Same.refl _) hL, Nat.zero_le _, [], upd_same, .nil⟩
          · rintro j H5 hj ⟨s5, _⟩
            exact .inl (.inl ((s4.trans s5) _ _ upd_same))
          · rintro j x H5 hx ⟨s5, hjl, ws, e5, hst⟩
            obtain ⟨n, g1, rfl, g3⟩ := nint_get hx
            have hj := (List.getElem?_eq_some_iff.mp g1).1
            have hmem := List.mem_of_getElem? g1
            have hml := reach_lt hok ((hkl.2 n).mp hmem)
            have hgm := hg _ (List.getElem_mem hml)
            obtain ⟨v, _, ha1, hdv⟩ := hv.at hml
            have hSa : SqL K H5 a us := .inl (.inl ((sH.trans s5) _ _ ha))
            refine Z.w_gname (σ' := [some (.ref a), some (.ref d), some (.int (n : Int)), none, some (.ref q), some (.ref D), none]) rfl ⟨rfl, ?_⟩
            walk_at "w"
            refine use_renum (pf := posn ns) (dp_tu _ _ hgm.1 hdv (.ofS (sH.trans s5))) hgm (s5 _ _ e4) ?_ fun r H6 s6 hr6 => ?_
            · intro u hu
              exact hpl2 u ((hkl.2 u).mpr (.use ((hkl.2 n).mp hmem) (List.getElem?_eq_getElem hml) hu))
            · walk_at "w"
              have hgall : AllG ((trimL ss ns).take j) := fun s hs => by
                obtain ⟨y, hy, rfl⟩ := List.mem_map.mp (List.mem_of_mem_take hs)
                have h9 := steps_at hok hkl hy
                exact good_ren (hg _ (List.mem_of_getElem? h9)) _
              have e6 := s6 _ _ e5
              have tu : Tu H6 (upd H6 L (.lst (ws ++ [r]))) := Tu.of ((Mo.refl _).lst e6)
              refine ⟨ws, e6, ?_, same_mut (s5.trans s6) hL, hj, _, upd_same, ?_⟩
              · rw [hst.len, List.length_take]
                exact Nat.lt_of_le_of_lt (Nat.min_le_left _ _) (Nat.lt_trans (show j < 100 by omega) (by decide))
              · have g2 := trimL_get (steps := ss) g1
                have g4 : ss.getD n d0 = ss[n] := by
                  rw [List.getD_eq_getElem?_getD, List.getElem?_eq_getElem hml]
                  rfl
                rw [List.take_add_one, g2, g4]
                exact (hst.tu hgall ((Tu.ofS s6).trans tu)).snoc (dp_tu _ _ (good_ren hgm _).1 hr6 tu)
          · rintro H5 ⟨s5, _, ws, e5, hst⟩
            rw [nint_len, ← trimL_len (steps := ss), List.take_length] at hst
            walk_at "w"
            exact h _ _ _ _ (fresh_of sH hL) (sH.trans s5) e5 hkl hst
end
end L

namespace L
open PySem PySem.Spec PyProof.Rows L2 Z M DT MK
section
variable {P : Program} {w : World} {K : PySem.W.Frag} {mg : Str → Option Value} {base : Heap}
/-- a log whose list l holds us -/
def LogAt (C : Addr) (H : Hp) (o l : Addr) (us : List V) : Prop := (∃ dx, H o = some (.ins C dx [("_steps", .ref l)])) ∧ H l = some (.lst us)
theorem w_fldLog {C o dx l : Addr} {σ : L2.St} {H : Hp} {Q : VK} (hc : Cls K C) (hn : NoAttr K C "_steps") (h1 : H o = some (.ins C dx [("_steps", .ref l)])) (q : Q (.ref l) H) : tFld K (tVar 0) "_steps" (some (.ref o) :: σ) H Q :=
  Z.w_var (v := V.ref o) rfl ⟨o, C, dx, _, _, rfl, h1, hc, hn, rfl, q⟩
def spLen (C : Addr) : Sp := fun vs H Q _ => ∃ (o l : Addr) (us : List V), vs = [.ref o] ∧ LogAt C H o l us ∧ Q (.int us.length) H
theorem ok_Log_len (T : Txt K mg) : FnOk P w K mg base CX0 1 T.f_Log_len T.fd_Log_len ["self"] (spLen T.C_Log) := by
  refine T.F_Log_len.ok sc_Log_len (fun vs H Q E h => ?_) (fun cdv A outer s H vs Q E hr h => ?_)
  · obtain ⟨o, l, us, rfl, _⟩ := h
    rfl
  · obtain ⟨o, l, us, rfl, ⟨⟨dx, h1⟩, h2⟩, h⟩ := h
    refine ⟨_, (pss_one (ps_ret (pe_callB call_len_seq (by rfl) T.m_len (by decide +kernel) (pa_cons (pe_fld (pv 0) rfl) pa_nil)))), ?_⟩
    refine Z.w_start (σ' := [some (.ref o)]) rfl ?_
    walk_at "w"
    refine w_fldLog T.cl_Log T.n_Log__steps h1 ?_
    walk_at "w"
    exact h
def spAll (C : Addr) : Sp := fun vs H Q _ => ∃ (o l : Addr) (us : List V), vs = [.ref o] ∧ LogAt C H o l us ∧ ∀ p, H p = none → Q (.ref p) (upd H p (.lst us))
theorem ok_Log_all (T : Txt K mg) : FnOk P w K mg base CX0 1 T.f_Log_all_steps T.fd_Log_all_steps ["self"] (spAll T.C_Log) := by
  refine T.F_Log_all_steps.ok sc_Log_all_steps (fun vs H Q E h => ?_) (fun cdv A outer s H vs Q E hr h => ?_)
  · obtain ⟨o, l, us, rfl, _⟩ := h
    rfl
  · obtain ⟨o, l, us, rfl, ⟨⟨dx, h1⟩, h2⟩, h⟩ := h
    refine ⟨_, (pss_one (ps_ret (pe_callTy call_list_of (by rfl) T.m_list (by decide +kernel) (pa_cons (pe_fld (pv 0) rfl) pa_nil)))), ?_⟩
    refine Z.w_start (σ' := [some (.ref o)]) rfl ?_
    walk_at "w"
    refine w_fldLog T.cl_Log T.n_Log__steps h1 ?_
    walk_at "w"
    exact h
def spIter (C : Addr) : Sp := fun vs H Q _ => ∃ (o l : Addr) (us : List V), vs = [.ref o] ∧ LogAt C H o l us ∧ ∀ p, H p = none → Q (.ref p) (upd H p (ItO l p 0))
theorem ok_Log_iter (T : Txt K mg) : FnOk P w K mg base CX0 1 T.f_Log_iter T.fd_Log_iter ["self"] (spIter T.C_Log) := by
  refine T.F_Log_iter.ok sc_Log_iter (fun vs H Q E h => ?_) (fun cdv A outer s H vs Q E hr h => ?_)
  · obtain ⟨o, l, us, rfl, _⟩ := h
    rfl
  · obtain ⟨o, l, us, rfl, ⟨⟨dx, h1⟩, h2⟩, h⟩ := h
    refine ⟨_, (pss_one (ps_ret (pe_callB call_iterL (by rfl) T.m_iter (by decide +kernel) (pa_cons (pe_fld (pv 0) rfl) pa_nil)))), ?_⟩
    refine Z.w_start (σ' := [some (.ref o)]) rfl ?_
    walk_at "w"
    refine w_fldLog T.cl_Log T.n_Log__steps h1 ?_
    refine ⟨l, us, rfl, .inl (.inl h2), fun p hp => ?_⟩
    walk_at "w"
    exact h p hp
def spInit (C : Addr) : Sp := fun vs H Q _ => ∃ (o dx : Addr), vs = [.ref o] ∧ H o = some (.ins C dx []) ∧ ∀ l, H l = none → Q .non (upd (upd H l (.lst [])) o (.ins C dx [("_steps", .ref l)]))
theorem ok_Log_init (T : Txt K mg) : FnOk P w K mg base CX0 1 T.f_Log_init T.fd_Log_init ["self"] (spInit T.C_Log) := by
  refine T.F_Log_init.ok sc_Log_init (fun vs H Q E h => ?_) (fun cdv A outer s H vs Q E hr h => ?_)
  · obtain ⟨o, dx, rfl, _⟩ := h
    rfl
  · obtain ⟨o, dx, rfl, h1, h⟩ := h
    refine ⟨_, (pss_one (ps_fld (pv 0) (pe_lst pa_nil) rfl)), ?_⟩
    refine Z.w_start (σ' := [some (.ref o)]) rfl ?_
    walk_at "w"
    refine Z.w_lst ?_
    walk_at "w"
    rename_i l hl
    refine ⟨o, T.C_Log, dx, [], rfl, ?_, T.cl_Log, T.n_Log__steps, by decide, ?_⟩
    · rw [upd_ne (ne_of_none h1 hl)]
      exact h1
    · exact h l hl
def spStepAt (C : Addr) : Sp := fun vs H Q _ => ∃ (o l : Addr) (us : List V) (k : Nat) (v : V), vs = [.ref o, .int (k : Int)] ∧ LogAt C H o l us ∧ us[k]? = some v ∧ Q v H
theorem ok_Log_step (T : Txt K mg) : FnOk P w K mg base CX0 1 T.f_Log_step T.fd_Log_step ["self", "number"] (spStepAt T.C_Log) := by
  refine T.F_Log_step.ok sc_Log_step (fun vs H Q E h => ?_) (fun cdv A outer s H vs Q E hr h => ?_)
  · obtain ⟨o, l, us, k, v, rfl, _⟩ := h
    rfl
  · obtain ⟨o, l, us, k, v, rfl, ⟨⟨dx, h1⟩, h2⟩, hk, h⟩ := h
    have hS : SqL K H l us := .inl (.inl h2)
    have ha := atI_nat hk
    refine ⟨_, (pss_one (ps_ret (pe_ix ix_list (pe_fld (pv 0) rfl) (pv 1) (fun _ _ => rfl)))), ?_⟩
    refine Z.w_start (σ' := [some (.ref o), some (.int (k:Int))]) rfl ?_
    walk_at "w"
    refine w_fldLog T.cl_Log T.n_Log__steps h1 ?_
    walk_at "w"
    exact h
def spClauseAt (K : PySem.W.Frag) (C : Addr) : Sp := fun vs H Q _ => ∃ (o l t : Addr) (us : List V) (k : Nat) (x y z : V), vs = [.ref o, .int (k : Int)] ∧ LogAt C H o l us ∧ us[k]? = some (.ref t) ∧ SqT K H t [x, y, z] ∧ Q y H
theorem ok_Log_clause_at (T : Txt K mg) : FnOk P w K mg base CX0 1 T.f_Log_clause_at T.fd_Log_clause_at ["self", "number"] (spClauseAt K T.C_Log) := by
  refine T.F_Log_clause_at.ok sc_Log_clause_at (fun vs H Q E h => ?_) (fun cdv A outer s H vs Q E hr h => ?_)
  · obtain ⟨o, l, t, us, k, x, y, z, rfl, _⟩ := h
    rfl
  · obtain ⟨o, l, t, us, k, x, y, z, rfl, ⟨⟨dx, h1⟩, h2⟩, hk, ht, h⟩ := h
    have hS : SqL K H l us := .inl (.inl h2)
    have ha := atI_nat hk
    refine ⟨_, (pss_one (ps_ret (pe_ix ix_tup (pe_ix ix_list (pe_fld (pv 0) rfl) (pv 1) (fun _ _ => rfl)) pe_int (fun _ _ => rfl)))), ?_⟩
    refine Z.w_start (σ' := [some (.ref o), some (.int (k:Int))]) rfl ?_
    walk_at "w"
    refine w_fldLog T.cl_Log T.n_Log__steps h1 ?_
    walk_at "w"
    exact h
def spWrite (C : Addr) : Sp := fun vs H Q _ => ∃ (o l : Addr) (us : List V) (x y z : V), vs = [.ref o, x, y, z] ∧ LogAt C H o l us ∧ us.length < 60 ∧ ∀ t, H t = none → Q (.int us.length) (upd (upd H t (.tup [x, y, z])) l (.lst (us ++ [.ref t])))
theorem ok_Log_write (T : Txt K mg) : FnOk P w K mg base CX0 1 T.f_Log_write T.fd_Log_write ["self", "kind", "clause", "details"] (spWrite T.C_Log) := by
  refine T.F_Log_write.ok sc_Log_write (fun vs H Q E h => ?_) (fun cdv A outer s H vs Q E hr h => ?_)
  · obtain ⟨o, l, us, x, y, z, rfl, _⟩ := h
    rfl
  · obtain ⟨o, l, us, x, y, z, rfl, ⟨⟨dx, h1⟩, h2⟩, hl, h⟩ := h
    refine ⟨_, (pss_cons (ps_expr (pe_bm PySem.F.plainAttrs_list PySem.F.slot_list_append PySem.F.type_list_append mt_append (pe_fld (pv 0) rfl) (pa_cons (pe_tup (pa_cons (pv 1) (pa_cons (pv 2) (pa_cons (pv 3) pa_nil)))) pa_nil)))
 (pss_one (ps_ret (pe_op op_sub (pe_callB call_len_seq (by rfl) T.m_len (by decide +kernel) (pa_cons (pe_fld (pv 0) rfl) pa_nil)) pe_int)))), ?_⟩
    refine Z.w_start (σ' := [some (.ref o), some (x), some (y), some (z)]) rfl ?_
    walk_at "w"
    refine Z.w_bm ?_
    refine w_fldLog T.cl_Log T.n_Log__steps h1 ?_
    refine ⟨.inl ⟨rfl, _, .inl (.inl h2)⟩, ?_⟩
    walk_at "w"
    rename_i t ht
    have s1 := same_of (Same.refl H) ht (o := .tup [x, y, z])
    refine ⟨l, us, _, rfl, rfl, s1 _ _ h2, Nat.lt_trans hl (by decide), ?_⟩
    walk_at "w"
    have nl : o ≠ l := fun e => by subst e; rw [h1] at h2; cases h2
    refine w_fldLog T.cl_Log T.n_Log__steps (dx := dx) (l := l) ?_ ?_
    · rw [upd_ne nl]
      exact s1 _ _ h1
    · walk_at "w"
      have e : (((us ++ [V.ref t]).length : Nat) : Int) - 1 = (us.length : Int) := by rw [List.length_append, List.length_singleton]; omega
      rw [e]
      exact h t ht
def spTakeL (K : PySem.W.Frag) (C : Addr) : Sp := fun vs H Q _ => ∃ (o l a : Addr) (us ws : List V) (ss : List Stp), vs = [.ref o, .ref a] ∧ LogAt C H o l us ∧ us.length < 60 ∧ H a = some (.lst ws) ∧ a ≠ l ∧ StV K H ws ss ∧ AllG ss ∧ ss.length < 60 ∧
  ∀ H1 zs, Same H H1 → StV K H1 zs (ss.map (mv us.length)) → Q (if ss.length = 0 then .non else .int ((us.length : Int) + (ss.length : Int) - 1)) (upd H1 l (.lst (us ++ zs)))
theorem ok_Log_take (T : Txt K mg) : FnOk P w K mg base CX0 2 T.f_Log_take T.fd_Log_take ["self", "steps"] (spTakeL K T.C_Log) := by
  have G_moved := ok_moved (P := P) (w := w) (base := base) T
  refine T.F_Log_take.ok sc_Log_take (fun vs H Q E h => ?_) (fun cdv A outer s H vs Q E hr h => ?_)
  · obtain ⟨o, l, a, us, ws, ss, rfl, _⟩ := h
    rfl
  · obtain ⟨o, l, a, us, ws, ss, rfl, ⟨⟨dx, h1⟩, h2⟩, hl, ha, hne, hst, hg, hsl, h⟩ := h
    refine ⟨_, (pss_cons (ps_set (i := 2) sc_Log_take.nd rfl (.inr rfl) (pe_callB call_len_seq (by rfl) T.m_len (by decide +kernel) (pa_cons (pe_fld (pv 0) rfl) pa_nil)))
 (pss_cons (ps_setLc (i := 3) (own := [("step", 4)]) (g := gName 4) (tt := tYes) (by rfl) sc_Log_take.nd rfl rfl (sw_true rfl rfl rfl (by decide +kernel)) (pi_list (pv 1)) (blkOk_by (own := [("step", 4)]) (N := N_Log_take) (sc := defScope s_Log_take) (by decide +kernel)) (fun _ _ _ _ _ => pg_name (i := 4) sc_Log_take.nd rfl (Or.inl rfl)) (fun _ _ _ _ _ => pts_nil) (fun _ _ _ _ _ => (pe_call G_moved (hr.mono (by first | decide | omega)) (by rfl) T.g_moved T.F_moved.kp T.b_moved .nil pass0 (pa_cons (pv 4) (pa_cons (pv 2) pa_nil)))))
 (pss_cons (ps_expr (pe_bm PySem.F.plainAttrs_list PySem.F.slot_list_extend PySem.F.type_list_extend mt_extend (pe_fld (pv 0) rfl) (pa_cons (pv 3) pa_nil)))
 (pss_one (ps_ret (pe_ifExp (pt_truth (pv 3) (by intro _; rfl)) (pe_op op_sub (pe_callB call_len_seq (by rfl) T.m_len (by decide +kernel) (pa_cons (pe_fld (pv 0) rfl) pa_nil)) pe_int) pe_non)))))), ?_⟩
    refine Z.w_start (σ' := [some (.ref o), some (.ref a), none, none, none]) rfl ?_
    walk_at "w"
    refine w_fldLog T.cl_Log T.n_Log__steps h1 ?_
    walk_at "w"
    intro D hD
    refine lc_list (K := K) (xs := ws) (fun j H5 => Same H H5 ∧ j ≤ ws.length ∧ ∃ zs, H5 D = some (.lst zs) ∧ StV K H5 zs ((ss.take j).map (mv us.length))) ?_ ?_ ?_ ?_
    · exact ⟨same_of (Same.refl _) hD, Nat.zero_le _, [], upd_same, .nil⟩
    · rintro j H5 hj ⟨s5, _⟩
      exact .inl (.inl (s5 _ _ ha))
    · rintro j x H5 hx ⟨s5, hjl, zs, e5, hz⟩
      obtain ⟨s, g1, g2⟩ := hst.get hx
      have hgs := hg _ (List.mem_of_getElem? g1)
      have hjs := (List.getElem?_eq_some_iff.mp g1).1
      refine Z.w_gname (σ' := [some (.ref o), some (.ref a), some (.int (us.length : Int)), none, some x]) rfl ⟨rfl, ?_⟩
      walk_at "w"
      refine use_moved (dp_tu _ _ hgs.1 g2 (.ofS s5)) hgs fun v H6 s6 hv => ?_
      walk_at "w"
      have e6 := s6 _ _ e5
      have tu : Tu H6 (upd H6 D (.lst (zs ++ [v]))) := Tu.of ((Mo.refl _).lst e6)
      refine ⟨zs, e6, ?_, same_mut (s5.trans s6) hD, (List.getElem?_eq_some_iff.mp hx).1, _, upd_same, ?_⟩
      · rw [hz.len, List.length_map, List.length_take]
        exact Nat.lt_of_le_of_lt (Nat.min_le_left _ _) (Nat.lt_trans (show j < 100 by omega) (by decide))
      · rw [List.take_add_one, g1, List.map_append]
        refine (hz.tu ?_ ((Tu.ofS s6).trans tu)).snoc (dp_tu _ _ (good_ren hgs _).1 hv tu)
        intro s' hs'
        obtain ⟨y, hy, rfl⟩ := List.mem_map.mp hs'
        exact good_ren (hg _ (List.mem_of_mem_take hy)) _
    · rintro H5 ⟨s5, _, zs, e5, hz⟩
      rw [hst.len, List.take_length] at hz
      have hzl := hz.len
      rw [List.length_map] at hzl
      walk_at "w"
      refine Z.w_bm ?_
      refine w_fldLog T.cl_Log T.n_Log__steps (s5 _ _ h1) ?_
      refine ⟨.inl ⟨rfl, _, .inl (.inl (s5 _ _ h2))⟩, ?_⟩
      walk_at "w"
      have nD : l ≠ D := fun e => by subst e; rw [h2] at hD; cases hD
      refine ⟨l, D, us, zs, rfl, rfl, s5 _ _ h2, e5, Nat.le_trans (show us.length + zs.length ≤ 200 by omega) (by decide), ?_⟩
      have nl : o ≠ l := fun e => by subst e; rw [h1] at h2; cases h2
      have e6 : upd H5 l (.lst (us ++ zs)) D = some (.lst zs) := by rw [upd_ne nD.symm]; exact e5
      walk_at "w"
      refine ⟨_, .inl ⟨zs, .inl (.inl e6), rfl⟩, ?_⟩
      have hh := h H5 zs s5 hz
      cases zs with
      | nil =>
        have e7 : ss.length = 0 := by rw [← hzl]; rfl
        rw [if_pos e7] at hh
        walk_at "w"
        exact hh
      | cons z zs =>
        have e7 : ¬ ss.length = 0 := by rw [← hzl, List.length_cons]; omega
        rw [if_neg e7] at hh
        walk_at "w"
        refine w_fldLog T.cl_Log T.n_Log__steps (dx := dx) (l := l) ?_ ?_
        · rw [upd_ne nl]
          exact s5 _ _ h1
        · walk_at "w"
          rw [List.length_append, hzl, Int.natCast_add]
          exact hh
end
end L

namespace L
open PySem PySem.Spec PyProof.Rows L2 Z M DT MK
section
variable {P : Program} {w : World} {K : PySem.W.Frag} {mg : Str → Option Value} {base : Heap}
theorem depthAll_le {n : Nat} : ∀ {xs : List PyData}, (∀ x ∈ xs, x.depth ≤ n) → PyData.depthAll xs ≤ n
  | [], _ => Nat.zero_le _
  | x :: xs, h => by
    unfold PyData.depthAll
    exact Nat.max_le.mpr ⟨h x List.mem_cons_self, depthAll_le fun y hy => h y (List.mem_cons_of_mem _ hy)⟩
theorem good_list {ss : List Stp} (hg : AllG ss) (hl : ss.length ≤ 100) : gd (.tuple (ss.map toD)) = true ∧ (PyData.tuple (ss.map toD)).depth ≤ 5 := by
  have h1 : gdAll (ss.map toD) = true := gdAll_of fun x hx => by
    obtain ⟨s, hs, rfl⟩ := List.mem_map.mp hx
    exact (hg s hs).1
  have h2 : decide ((ss.map toD).length ≤ 1000) = true := decide_eq_true (by rw [List.length_map]; omega)
  refine ⟨?_, ?_⟩
  · unfold gd
    rw [h1, h2]
    rfl
  · unfold PyData.depth
    have := depthAll_le (n := 4) (xs := ss.map toD) fun x hx => by
      obtain ⟨s, hs, rfl⟩ := List.mem_map.mp hx
      exact (hg s hs).2.1
    omega
def spAlikeL (K : PySem.W.Frag) : Sp := fun vs H Q _ => ∃ (a b : Addr) (us ws : List V) (ss : List Stp), vs = [.ref a, .ref b] ∧ H a = some (.lst us) ∧ H b = some (.lst ws) ∧ StV K H us ss ∧ StV K H ws ss ∧ AllG ss ∧ ss.length ≤ 60 ∧ ∀ H', Same H H' → Q (.bl true) H'
theorem use_alikeL {a b : Addr} {us ws : List V} {ss : List Stp} {H : Hp} {Q : VK} {E : XK} (h1 : H a = some (.lst us)) (h2 : H b = some (.lst ws)) (h3 : StV K H us ss) (h4 : StV K H ws ss) (h5 : AllG ss) (h6 : ss.length ≤ 60) (h : ∀ H', Same H H' → Q (.bl true) H') : spAlikeL K [.ref a, .ref b] H Q E := ⟨a, b, us, ws, ss, rfl, h1, h2, h3, h4, h5, h6, h⟩
theorem ok_alikeL (T : Txt K mg) : FnOk P w K mg base CX0 8 T.f_alike_lists T.fd_alike_lists ["_law_told", "_law_due_here"] (spAlikeL K) := by
  have G_alike := ok_alike (P := P) (w := w) (base := base) T 6
  refine T.F_alike_lists.ok sc_alike_lists (fun vs H Q E h => ?_) (fun cdv A outer s H vs Q E hr h => ?_)
  · obtain ⟨a, b, us, ws, ss, rfl, _⟩ := h
    rfl
  · obtain ⟨a, b, us, ws, ss, rfl, h1, h2, h3, h4, hg, hl, h⟩ := h
    obtain ⟨g1, g2⟩ := good_list hg (by omega)
    refine ⟨_, (pss_one (ps_ret (pe_and (pe_callB call_isi (by rfl) T.m_isinstance (by decide +kernel) (pa_cons (pv 0) (pa_cons (pe_bltn (v := .ty "list") (by rfl) T.m_list (by decide +kernel) rfl) pa_nil))) (pe_one (pe_call G_alike (hr.mono (by first | decide | omega)) (by rfl) T.g_alike T.F_alike.kp T.b_alike .nil pass0 (pa_cons (pe_callTy DT.call_tupleZ (by rfl) T.m_tuple (by decide +kernel) (pa_cons (pv 0) pa_nil)) (pa_cons (pe_callTy DT.call_tupleZ (by rfl) T.m_tuple (by decide +kernel) (pa_cons (pv 1) pa_nil)) pa_nil))))))), ?_⟩
    refine Z.w_start (σ' := [some (.ref a), some (.ref b)]) rfl ?_
    walk_at "w"
    refine ⟨a, us, rfl, .inl (.inl h1), fun x o1 hx b1 => ?_⟩
    have s1 := same_of (Same.refl H) hx (o := .frz o1 (.tup us))
    walk_at "w"
    refine ⟨b, ws, rfl, .inl (.inl (s1 _ _ h2)), fun y o2 hy b2 => ?_⟩
    have s2 := same_of s1 hy (o := .frz o2 (.tup ws))
    walk_at "w"
    have d1 : Dp K (upd (upd H x (.frz o1 (.tup us))) y (.frz o2 (.tup ws))) (.ref x) (.tuple (ss.map toD)) := .tup (.inl (.inr ⟨o1, upd_of hy upd_same⟩)) (h3.tu hg (.ofS s2))
    have d2 : Dp K (upd (upd H x (.frz o1 (.tup us))) y (.frz o2 (.tup ws))) (.ref y) (.tuple (ss.map toD)) := .tup (.inl (.inr ⟨o2, upd_same⟩)) (h4.tu hg (.ofS s2))
    refine use_alike d1 d2 g1 g2 fun H3 s3 => ?_
    walk_at "w"
    exact h _ (s2.trans s3)
def spLit : Sp := fun vs H Q _ => ∃ q : Addr, vs = [.ref q] ∧ PoolAt H q ∧ ∀ i H', PX q H H' → -31 < i → i < 31 → Q (.int i) H'
theorem use_lit {q : Addr} {H : Hp} {Q : VK} {E : XK} (h1 : PoolAt H q) (h : ∀ i H', PX q H H' → -31 < i → i < 31 → Q (.int i) H') : spLit [.ref q] H Q E := ⟨q, rfl, h1, h⟩
theorem lit_bd {r t : Int} (h1 : 0 ≤ r) (h2 : r < 30) (h3 : 0 ≤ t) (h4 : t < 2) : -31 < (1 + r) * (1 - 2 * t) ∧ (1 + r) * (1 - 2 * t) < 31 := by
  have : t = 0 ∨ t = 1 := by omega
  rcases this with rfl | rfl
  · constructor <;> omega
  · constructor <;> omega
theorem ok_lit (T : Txt K mg) : FnOk P w K mg base CX0 2 T.f_literal T.fd_literal ["_law_pool_here"] spLit := by
  have G_take := ok_take (P := P) (w := w) (base := base) T
  refine T.F_literal.ok sc_literal (fun vs H Q E h => ?_) (fun cdv A outer s H vs Q E hr h => ?_)
  · obtain ⟨q, rfl, _⟩ := h
    rfl
  · obtain ⟨q, rfl, hp, h⟩ := h
    refine ⟨_, (pss_one (ps_ret (pe_op op_mul (pe_op op_add pe_int (pe_call G_take (hr.mono (by first | decide | omega)) (by rfl) T.g_take T.F_take.kp T.b_take .nil pass0 (pa_cons (pv 0) (pa_cons pe_int pa_nil)))) (pe_op op_sub pe_int (pe_op op_mul pe_int (pe_call G_take (hr.mono (by first | decide | omega)) (by rfl) T.g_take T.F_take.kp T.b_take .nil pass0 (pa_cons (pv 0) (pa_cons pe_int pa_nil)))))))), ?_⟩
    refine Z.w_start (σ' := [some (.ref q)]) rfl ?_
    walk_at "w"
    rename_i r1 H1 p1 a1 a2 r2 H2 p2 b1 b2
    obtain ⟨k1, k2⟩ := lit_bd a1 a2 b1 b2
    exact h _ _ (p1.trans p2) k1 k2
/-- a dict of ints -/
def AllI (kvs : List (Key × V)) : Prop := ∀ p ∈ kvs, ∃ a b : Int, p = (Sum.inl a, V.int b)
theorem allI_put {kvs : List (Key × V)} (h : AllI kvs) (a b : Int) : AllI (putK kvs (Sum.inl a) (.int b)) := by
  intro p hp
  unfold putK at hp
  split at hp
  · obtain ⟨y, hy, e⟩ := List.mem_map.mp hp
    by_cases z : y.1 = Sum.inl a
    · rw [if_pos z] at e
      exact ⟨a, b, by rw [← e, z]⟩
    · rw [if_neg z] at e
      exact e ▸ h y hy
  · rcases List.mem_append.mp hp with z | z
    · exact h p z
    · exact ⟨a, b, List.mem_singleton.mp z⟩
theorem allI_keys : ∀ {kvs : List (Key × V)}, AllI kvs → ∃ ks : List Int, (kvs.map fun kv => kV kv.1) = ks.map V.int ∧ ks.length = kvs.length ∧ ∀ n ∈ ks, ∃ b : Int, valV kvs (Sum.inl n) = some (.int b)
  | [], _ => ⟨[], rfl, rfl, fun n hn => by simp at hn⟩
  | p :: r, h => by
    obtain ⟨a, b, rfl⟩ := h p List.mem_cons_self
    obtain ⟨ks, h1, h2, h3⟩ := allI_keys fun q hq => h q (List.mem_cons_of_mem _ hq)
    refine ⟨a :: ks, by rw [List.map_cons, List.map_cons, h1]; rfl, by rw [List.length_cons, List.length_cons, h2], fun n hn => ?_⟩
    by_cases e : (Sum.inl a : Key) = Sum.inl n
    · exact ⟨b, valV_pos (p := (Sum.inl a, V.int b)) e⟩
    · have hm : n ∈ ks := by
        rcases List.mem_cons.mp hn with z | z
        · exact absurd (by rw [z]) e
        · exact z
      obtain ⟨c, hc⟩ := h3 n hm
      exact ⟨c, by rw [valV_neg (p := (Sum.inl a, V.int b)) e]; exact hc⟩
theorem dp_inz {H : Hp} : ∀ ls : List Int, DpAll K H (ls.map V.int) (ls.map PyData.int)
  | [] => .nil
  | l :: ls => .cons (.int l) (dp_inz ls)
theorem gd_inz (ls : List Int) (h : ls.length ≤ 1000) : gd (.tuple (ls.map PyData.int)) = true := by
  have h1 : gdAll (ls.map PyData.int) = true := gdAll_of fun x hx => by
    obtain ⟨s, _, rfl⟩ := List.mem_map.mp hx
    rfl
  unfold gd
  rw [h1, decide_eq_true (by rw [List.length_map]; exact h)]
  rfl
theorem dep_inz (ls : List Int) : (PyData.tuple (ls.map PyData.int)).depth ≤ 1 := by
  unfold PyData.depth
  have := depthAll_le (n := 0) (xs := ls.map PyData.int) fun x hx => by
    obtain ⟨s, _, rfl⟩ := List.mem_map.mp hx
    exact Nat.le_refl _
  omega
def spLits (K : PySem.W.Frag) : Sp := fun vs H Q _ => ∃ q : Addr, vs = [.ref q] ∧ PoolAt H q ∧ ∀ v c H', PX q H H' → Dp K H' v c → gd c = true → c.depth ≤ 1 → Q v H'
theorem use_lits {q : Addr} {H : Hp} {Q : VK} {E : XK} (h1 : PoolAt H q) (h : ∀ v c H', PX q H H' → Dp K H' v c → gd c = true → c.depth ≤ 1 → Q v H') : spLits K [.ref q] H Q E := ⟨q, rfl, h1, h⟩
theorem ok_lits (T : Txt K mg) : FnOk P w K mg base CX0 3 T.f_literals T.fd_literals ["_law_pool_here"] (spLits K) := by
  have G_take := ok_take (P := P) (w := w) (base := base) T
  have G_literal := ok_lit (P := P) (w := w) (base := base) T
  refine T.F_literals.ok sc_literals (fun vs H Q E h => ?_) (fun cdv A outer s H vs Q E hr h => ?_)
  · obtain ⟨q, rfl, _⟩ := h
    rfl
  · obtain ⟨q, rfl, hp, h⟩ := h
    refine ⟨_, (pss_cons (ps_set (i := 1) sc_literals.nd rfl (.inr rfl) pe_dnewK)
 (pss_cons (ps_for PassesOwn.never rfl (pi_range1 (by rfl) T.m_range (pa_cons (pe_call G_take (hr.mono (by first | decide | omega)) (by rfl) T.g_take T.F_take.kp T.b_take .nil pass0 (pa_cons (pv 0) (pa_cons pe_int pa_nil))) pa_nil)) (pg_name (i := 2) sc_literals.nd rfl (.inl rfl)) (pss_cons (ps_set (i := 3) sc_literals.nd rfl (.inl rfl) (pe_call G_literal (hr.mono (by first | decide | omega)) (by rfl) T.g_literal T.F_literal.kp T.b_literal .nil pass0 (pa_cons (pv 0) pa_nil)))
 (pss_one (ps_dput (hu_of hr) (pv 1) (pe_callB call_abs (by rfl) T.m_abs (by decide +kernel) (pa_cons (pv 3) pa_nil)) (pv 3) rfl))))
 (pss_one (ps_ret (pe_callTy DT.call_tupleZ (by rfl) T.m_tuple (by decide +kernel) (pa_cons (pe_lc (own := [("_law_n", 4)]) (g := gName 4) (tt := tYes) (by rfl) sc_literals.nd (pi_list (pe_callB cr_sorted (by rfl) T.m_sorted (by decide +kernel) (pa_cons (pe_callTy (call_listD rfl) (by rfl) T.m_list (by decide +kernel) (pa_cons (pv 1) pa_nil)) pa_nil))) (blkOk_by (own := [("_law_n", 4)]) (N := N_literals) (sc := defScope s_literals) (by decide +kernel)) (fun _ _ _ _ _ => pg_name (i := 4) sc_literals.nd rfl (Or.inl rfl)) (fun _ _ _ _ _ => pts_nil) (fun _ _ _ _ _ => (pe_dget (hu_of hr) (pv 1) (pv 4) (fun _ _ => rfl)))) pa_nil)))))), ?_⟩
    refine Z.w_start (σ' := [some (.ref q), none, none, none, none]) rfl ?_
    walk_at "w"
    rename_i d hd
    have p0 : PX q H (upd H d (.dK [])) := (PX.refl hp).new hd
    refine use_takeP p0.2 (by decide) (by decide) fun n H1 p1 a1 a2 => ?_
    walk_at "w"
    refine ⟨by omega, by omega, ?_⟩
    refine for_range (fun i σ H' => ∃ x2 x3 kvs, σ = [some (.ref q), some (.ref d), x2, x3, none] ∧ PX q H H' ∧ H' d = some (.dK kvs) ∧ AllI kvs ∧ kvs.length ≤ i ∧ i ≤ n.toNat) ?_ ?_ ?_
    · exact ⟨none, none, [], rfl, p0.trans p1, p1.3 _ _ (fun e => by subst e; obtain ⟨o, e1, _⟩ := hp; rw [hd] at e1; cases e1) upd_same, fun p hp => by simp at hp, Nat.le_refl _, Nat.zero_le _⟩
    · rintro i σ H' hi ⟨x2, x3, kvs, rfl, p2, hD, hA, hl, _⟩
      have ndq : d ≠ q := fun e => by subst e; obtain ⟨o, e1, _⟩ := hp; rw [hd] at e1; cases e1
      walk_at "w"
      refine use_lit p2.2 fun x H3 p3 b1 b2 => ?_
      walk_at "w"
      have hD3 := p3.3 _ _ ndq hD
      refine ⟨d, _, rfl, DPut.k (k := Sum.inl (if x < 0 then -x else x)) hD3 (Nat.lt_of_le_of_lt hl (Nat.lt_trans (show i < 100 by omega) (by decide))), ?_⟩
      exact ⟨_, _, _, rfl, (p2.trans p3).dict hd hD3 rfl, upd_same, allI_put hA _ _, Nat.le_trans (length_putK _ _ _) (by omega), hi⟩
    · rintro σ H' ⟨x2, x3, kvs, rfl, p2, hD, hA, hl, _⟩
      walk_at "w"
      obtain ⟨ks, k1, k2, k3⟩ := allI_keys hA
      refine ⟨d, kvs, rfl, .inl hD, fun p hp => ?_⟩
      rw [k1]
      have s1 := same_of (Same.refl H') hp (o := .lst (ks.map V.int))
      walk_at "w"
      refine ⟨p, ks, rfl, .inl (.inl upd_same), by omega, fun ns p2' hpm hps hp2 => ?_⟩
      have s2 := same_of s1 hp2 (o := .lst (ns.map V.int))
      have hnl := hpm.length_eq
      walk_at "w"
      intro D hDn
      refine lc_list (K := K) (xs := ns.map V.int) (fun j H5 => Same (upd (upd H' p (.lst (ks.map V.int))) p2' (.lst (ns.map V.int))) H5 ∧ j ≤ ns.length ∧ ∃ ls : List Int, H5 D = some (.lst (ls.map V.int)) ∧ ls.length = j) ?_ ?_ ?_ ?_
      · exact ⟨same_of (Same.refl _) hDn, Nat.zero_le _, [], upd_same, rfl⟩
      · rintro j H5 hj ⟨s5, _⟩
        exact .inl (.inl (s5 _ _ upd_same))
      · rintro j x H5 hx ⟨s5, hjl, ls, e5, hlj⟩
        rw [List.getElem?_map] at hx
        cases hxi : ns[j]? with
        | none => rw [hxi] at hx; cases hx
        | some m =>
          rw [hxi] at hx
          obtain rfl : V.int m = x := Option.some.inj hx
          have hjn := (List.getElem?_eq_some_iff.mp hxi).1
          obtain ⟨b, hb⟩ := k3 m (hpm.mem_iff.mp (List.mem_of_getElem? hxi))
          refine Z.w_gname (σ' := [some (.ref q), some (.ref d), x2, x3, some (.int m)]) ?_ ⟨rfl, ?_⟩
          · rfl
          walk_at "w"
          refine ⟨d, _, rfl, by rw [← hb]; exact DGet.k (k := Sum.inl m) ((s2.trans s5) _ _ hD), ?_⟩
          walk_at "w"
          refine ⟨_, e5, ?_, same_mut s5 hDn, hjn, ls ++ [b], ?_, ?_⟩
          · rw [List.length_map, hlj]
            exact Nat.lt_trans (show j < 100 by omega) (by decide)
          · rw [upd_same, List.map_append]
            rfl
          · rw [List.length_append, hlj]
            rfl
      · rintro H5 ⟨s5, _, ls, e5, hlj⟩
        rw [List.length_map] at hlj
        refine ⟨D, ls.map V.int, rfl, .inl (.inl e5), fun t o ht hb => ?_⟩
        have s6 := same_of (s2.trans s5) ht (o := .frz o (.tup (ls.map V.int)))
        refine h _ _ _ (p2.same s6) (.tup (.inl (.inr ⟨o, upd_same⟩)) (dp_inz ls)) (gd_inz ls (by omega)) (dep_inz ls)
end
end L

namespace L
open PySem PySem.Spec PyProof.Rows L2 Z M DT MK
section
variable {P : Program} {w : World} {K : PySem.W.Frag} {mg : Str → Option Value} {base : Heap}
theorem PX.app {q d : Addr} {H H1 : Hp} {o : HO} (a : PX q H H1) (hp : PoolAt H q) (h : H d = none) : PX q H (upd H1 d o) := by
  refine ⟨a.1.own h, ?_, fun b x n e => by rw [upd_ne (ne_of_none e h)]; exact a.3 b x n e⟩
  obtain ⟨o', h2, hp'⟩ := a.2
  refine ⟨o', ?_, hp'⟩
  rw [upd_ne]
  · exact h2
  · rintro rfl
    obtain ⟨o2, h3, _⟩ := hp
    rw [h] at h3
    cases h3
theorem good_res {c : PyData} {f : Nat} {sk : List (Int × Nat)} (e1 : gd c = true) (e2 : c.depth ≤ 1) (h3 : sk.length ≤ 50) : GoodS (.res c f sk) := by
  refine ⟨?_, ?_, h3⟩
  · have h6 : decide ((sk.map skD).length ≤ 1000) = true := decide_eq_true (by rw [List.length_map]; exact Nat.le_trans h3 (by decide))
    have h7 := gd_sk sk
    show gd (.tuple [.str RES, c, .tuple [.int (f : Int), .tuple (sk.map skD)]]) = true
    generalize sk.map skD = L at *
    unfold gd gdAll gdAll gdAll gdAll
    rw [e1]
    unfold gd
    unfold gdAll gdAll gdAll
    unfold gd
    rw [h6, h7]
    rfl
  · have := depth_sk sk
    simp only [toD, PyData.depth, PyData.depthAll]
    omega
theorem good_oth {k : Str} {c d : PyData} (e1 : gd c = true) (e2 : c.depth ≤ 1) (e3 : gd d = true) (e4 : d.depth ≤ 2) (hk : k ≠ RES) : GoodS (.oth k c d) := by
  refine ⟨?_, ?_, hk⟩
  · show gd (.tuple [.str k, c, d]) = true
    unfold gd gdAll gdAll gdAll gdAll
    rw [e1, e3]
    rfl
  · simp only [toD, PyData.depth, PyData.depthAll]
    omega
def spStep (K : PySem.W.Frag) : Sp := fun vs H Q _ => ∃ (q a : Addr) (us : List V) (ss : List Stp), vs = [.ref q, .ref a] ∧ PoolAt H q ∧ a ≠ q ∧ H a = some (.lst us) ∧ StV K H us ss ∧ AllG ss ∧ Ok ss ∧ ss.length ≤ 20 ∧
  ∀ v s H', PX q H H' → Dp K H' v (toD s) → GoodS s → (∀ u ∈ uses s, u < ss.length) → Q v H'
theorem use_step {q a : Addr} {us : List V} {ss : List Stp} {H : Hp} {Q : VK} {E : XK} (h1 : PoolAt H q) (h2 : a ≠ q) (h3 : H a = some (.lst us)) (h4 : StV K H us ss) (h5 : AllG ss) (h6 : Ok ss) (h7 : ss.length ≤ 20) (h : ∀ v s H', PX q H H' → Dp K H' v (toD s) → GoodS s → (∀ u ∈ uses s, u < ss.length) → Q v H') : spStep K [.ref q, .ref a] H Q E :=
  ⟨q, a, us, ss, rfl, h1, h2, h3, h4, h5, h6, h7, h⟩
theorem ok_step (T : Txt K mg) : FnOk P w K mg base CX0 4 T.f_step T.fd_step ["_law_pool_here", "_law_steps"] (spStep K) := by
  have G_take := ok_take (P := P) (w := w) (base := base) T
  have G_literal := ok_lit (P := P) (w := w) (base := base) T
  have G_literals := ok_lits (P := P) (w := w) (base := base) T
  refine T.F_step.ok sc_step (fun vs H Q E h => ?_) (fun cdv A outer s H vs Q E hr h => ?_)
  · obtain ⟨q, a, us, ss, rfl, _⟩ := h
    rfl
  · obtain ⟨q, a, us, ss, rfl, hp, hne, ha, hst, hg, hok, hl, h⟩ := h
    have hvl := hst.len
    refine ⟨_, (pss_cons (ps_set (i := 2) sc_step.nd rfl (.inr rfl) (pe_callB call_len_seq (by rfl) T.m_len (by decide +kernel) (pa_cons (pv 1) pa_nil)))
 (pss_cons (ps_set (i := 3) sc_step.nd rfl (.inl rfl) (pe_call G_take (hr.mono (by first | decide | omega)) (by rfl) T.g_take T.F_take.kp T.b_take .nil pass0 (pa_cons (pv 0) (pa_cons pe_int pa_nil))))
 (pss_cons (ps_set (i := 4) sc_step.nd rfl (.inl rfl) (pe_call G_literals (hr.mono (by first | decide | omega)) (by rfl) T.g_literals T.F_literals.kp T.b_literals .nil pass0 (pa_cons (pv 0) pa_nil)))
 (pss_cons (ps_if (PW.pt (pw_and (pt_cmpR op_gt (pv 2) pe_int (nomark _)) (pw_and1 (pt_cmpR op_eq (pv 3) pe_int (nomark _))))) (pss_one (ps_ret (pe_ix ix_list (pv 1) (pe_op op_sub (pv 2) pe_int) (fun _ _ => rfl)))) pss_nil)
 (pss_cons (ps_if (PW.pt (pw_and (pt_cmpR op_gt (pv 2) pe_int (nomark _)) (pw_and1 (pt_cmpR op_lt (pv 3) pe_int (nomark _))))) (pss_cons (ps_set (i := 5) sc_step.nd rfl (.inl rfl) (pe_op op_sub (pe_op op_sub (pv 2) pe_int) (pe_call G_take (hr.mono (by first | decide | omega)) (by rfl) T.g_take T.F_take.kp T.b_take .nil pass0 (pa_cons (pv 0) (pa_cons (pe_op op_add pe_int (pe_call G_take (hr.mono (by first | decide | omega)) (by rfl) T.g_take T.F_take.kp T.b_take .nil pass0 (pa_cons (pv 0) (pa_cons (pv 2) pa_nil)))) pa_nil)))))
 (pss_cons (ps_setLc (i := 6) (own := [("_law_j", 7)]) (g := gName 7) (tt := tYes) (by rfl) sc_step.nd rfl rfl (sw_true rfl rfl rfl (by decide +kernel)) (pi_range1 (by rfl) T.m_range (pa_cons (pe_call G_take (hr.mono (by first | decide | omega)) (by rfl) T.g_take T.F_take.kp T.b_take .nil pass0 (pa_cons (pv 0) (pa_cons pe_int pa_nil))) pa_nil)) (blkOk_by (own := [("_law_j", 7)]) (N := N_step) (sc := defScope s_step) (by decide +kernel)) (fun _ _ _ _ _ => pg_name (i := 7) sc_step.nd rfl (Or.inl rfl)) (fun _ _ _ _ _ => pts_nil) (fun _ _ _ _ _ => (pe_tup (pa_cons (pe_call G_literal (hr.mono (by first | decide | omega)) (by rfl) T.g_literal T.F_literal.kp T.b_literal .nil pass0 (pa_cons (pv 0) pa_nil)) (pa_cons (pe_op op_sub (pe_op op_sub (pv 2) pe_int) (pe_call G_take (hr.mono (by first | decide | omega)) (by rfl) T.g_take T.F_take.kp T.b_take .nil pass0 (pa_cons (pv 0) (pa_cons (pv 2) pa_nil)))) pa_nil)))))
 (pss_one (ps_ret (pe_tup (pa_cons pe_str (pa_cons (pv 4) (pa_cons (pe_tup (pa_cons (pv 5) (pa_cons (pe_callTy DT.call_tupleZ (by rfl) T.m_tuple (by decide +kernel) (pa_cons (pv 6) pa_nil)) pa_nil))) pa_nil)))))))) pss_nil)
 (pss_cons (ps_set (i := 8) sc_step.nd rfl (.inl rfl) (pe_op op_add pe_int (pe_call G_take (hr.mono (by first | decide | omega)) (by rfl) T.g_take T.F_take.kp T.b_take .nil pass0 (pa_cons (pv 0) (pa_cons pe_int pa_nil)))))
 (pss_cons (ps_set (i := 9) sc_step.nd rfl (.inl rfl) (pe_op op_add pe_int (pe_call G_take (hr.mono (by first | decide | omega)) (by rfl) T.g_take T.F_take.kp T.b_take .nil pass0 (pa_cons (pv 0) (pa_cons pe_int pa_nil)))))
 (pss_cons (ps_set (i := 10) sc_step.nd rfl (.inl rfl) (pe_lst (pa_cons (pe_tup (pa_cons pe_str (pa_cons (pv 4) (pa_cons pe_non pa_nil)))) (pa_cons (pe_tup (pa_cons pe_str (pa_cons (pv 4) (pa_cons (pv 8) pa_nil)))) (pa_cons (pe_tup (pa_cons pe_str (pa_cons (pv 4) (pa_cons pe_non pa_nil)))) (pa_cons (pe_tup (pa_cons pe_str (pa_cons (pv 4) (pa_cons (pe_tup (pa_cons (pv 8) (pa_cons (pe_tup (pa_cons (pv 9) (pa_cons (pv 8) pa_nil))) pa_nil))) pa_nil)))) pa_nil))))))
 (pss_cons (ps_set (i := 10) sc_step.nd rfl (.inl rfl) (pe_op op_cat (pv 10) (pe_lst (pa_cons (pe_tup (pa_cons pe_str (pa_cons (pv 4) (pa_cons (pe_tup (pa_cons (pv 8) (pa_cons (pv 9) pa_nil))) pa_nil)))) (pa_cons (pe_tup (pa_cons pe_str (pa_cons (pv 4) (pa_cons (pe_tup (pa_cons (pe_tup (pa_cons (pv 8) (pa_cons pe_int pa_nil))) (pa_cons (pe_tup (pa_cons pe_int (pa_cons (pv 9) pa_nil))) pa_nil))) pa_nil)))) pa_nil)))))
 (pss_one (ps_ret (pe_ix ix_list (pv 10) (pe_call G_take (hr.mono (by first | decide | omega)) (by rfl) T.g_take T.F_take.kp T.b_take .nil pass0 (pa_cons (pv 0) (pa_cons pe_int pa_nil))) (fun _ _ => rfl))))))))))))), ?_⟩
    refine Z.w_start (σ' := [some (.ref q), some (.ref a), none, none, none, none, none, none, none, none, none]) rfl ?_
    walk_at "w"
    rename_i r1 H1 p1 a1 a2
    refine use_lits p1.2 fun v c H2 p2 hv hgc hdc => ?_
    have ha2 := p2.3 _ _ hne (p1.3 _ _ hne ha)
    have px := p1.trans p2
    repeat' (first | with_reducible refine seqIf (fun σ' H' => σ' = [some (.ref q), some (.ref a), some (.int us.length), some (.int r1), some v, none, none, none, none, none, none] ∧ H' = H2) (fun R kk => ?_) ?_ | walk_at "w1")
    · by_cases hz : ss.length = 0
      · walk_at "w"
        exact kk _ _ ⟨rfl, rfl⟩
      · walk_at "w"
        walk_at "wi"
        · obtain ⟨v2, _, ha3, hd3⟩ := hst.at (i := ss.length - 1) (by omega)
          have e1 : ((ss.length - 1 : Nat) : Int) = (us.length : Int) - 1 := by omega
          rw [e1] at ha3
          have hS : SqL K H2 a us := .inl (.inl ha2)
          have hgl := hg _ (List.getElem_mem (show ss.length - 1 < ss.length by omega))
          walk_at "w"
          refine h _ _ _ px (dp_tu _ _ hgl.1 hd3 (Tu.of px.1)) hgl fun u hu => ?_
          have := hok _ _ (List.getElem?_eq_getElem (show ss.length - 1 < ss.length by omega)) u hu
          omega
        · walk_at "w"
          exact kk _ _ ⟨rfl, rfl⟩
    · rintro σ' H' ⟨rfl, rfl⟩
      refine seqIf (fun σ' H4 => σ' = [some (.ref q), some (.ref a), some (.int us.length), some (.int r1), some v, none, none, none, none, none, none] ∧ H4 = H') (fun R kk => ?_) ?_
      · by_cases hz : ss.length = 0
        · walk_at "w"
          exact kk _ _ ⟨rfl, rfl⟩
        · walk_at "w"
          walk_at "wi"
          · walk_at "w"
            rename_i r2 H3 p3 b1 b2 r3 H4 p4 c1 c2 n H5 p5 d1 d2
            have p15 := ((px.trans p3).trans p4).trans p5
            obtain ⟨f, hf⟩ : ∃ f : Nat, (us.length : Int) - 1 - r3 = (f : Int) := ⟨((us.length : Int) - 1 - r3).toNat, by omega⟩
            rw [hf]
            refine ⟨by omega, by omega, fun D hD => ?_⟩
            refine lc_range (lo := 0) (n := n.toNat) (fun j H6 => PX q H5 H6 ∧ j ≤ n.toNat ∧ ∃ (zs : List V) (sk : List (Int × Nat)), H6 D = some (.lst zs) ∧ DpAll K H6 zs (sk.map skD) ∧ sk.length = j ∧ ∀ p ∈ sk, p.2 < ss.length) ?_ ?_ ?_
            · exact ⟨(PX.refl p15.2).new hD, Nat.zero_le _, [], [], upd_same, .nil, rfl, fun p hp => by simp at hp⟩
            · rintro j H6 hj ⟨p6, hjn, zs, sk, e6, hd6, hl6, hu6⟩
              refine Z.w_gname (σ' := [some (.ref q), some (.ref a), some (.int us.length), some (.int r1), some v, some (.int (f : Int)), none, some (.int (0 + (j : Int))), none, none, none]) rfl ⟨rfl, ?_⟩
              walk_at "w"
              refine use_lit p6.2 fun x H7 p7 f1 f2 => ?_
              walk_at "w"
              rename_i r4 H8 p8 g1 g2 t ht
              have ndq : D ≠ q := fun e => by
                subst e
                obtain ⟨o, e1, _⟩ := p15.2
                rw [hD] at e1
                cases e1
              have e8 := p8.3 _ _ ndq (p7.3 _ _ ndq e6)
              obtain ⟨m, hm⟩ : ∃ m : Nat, (us.length : Int) - 1 - r4 = (m : Int) := ⟨((us.length : Int) - 1 - r4).toNat, by omega⟩
              rw [hm]
              have e9 : upd H8 t (.tup [.int x, .int (m : Int)]) D = some (.lst zs) := by rw [upd_ne (ne_of_none e8 ht)]; exact e8
              have tu1 : Tu H6 (upd H8 t (.tup [.int x, .int (m : Int)])) := Tu.of (((p7.trans p8).new ht).1)
              have tu2 : Tu (upd H8 t (.tup [.int x, .int (m : Int)])) (upd (upd H8 t (.tup [.int x, .int (m : Int)])) D (.lst (zs ++ [.ref t]))) := Tu.of ((Mo.refl _).lst e9)
              refine ⟨zs, e9, ?_, (((p6.trans p7).trans p8).new ht).app p15.2 hD, hj, _, sk ++ [(x, m)], upd_same, ?_, ?_, ?_⟩
              · rw [DpAll.len hd6, List.length_map, hl6]
                exact Nat.lt_trans (show j < 100 by omega) (by decide)
              · rw [List.map_append]
                refine DpAll.app (dpAll_tu _ _ (gd_sk _) hd6 (tu1.trans tu2)) (.cons (.tup (xs := [.int x, .int (m : Int)]) (.inl (.inl ?_)) (.cons (.int _) (.cons (.int _) .nil))) .nil)
                rw [upd_ne (fun z => by subst z; rw [e8] at ht; cases ht), upd_same]
              · rw [List.length_append, hl6]
                rfl
              · intro p hp
                rcases List.mem_append.mp hp with z | z
                · exact hu6 p z
                · rw [List.mem_singleton.mp z]
                  show m < ss.length
                  omega
            · rintro H6 ⟨p6, _, zs, sk, e6, hd6, hl6, hu6⟩
              walk_at "w"
              refine ⟨D, zs, rfl, .inl (.inl e6), fun l o hl4 hb => ?_⟩
              have s4 := same_of (Same.refl H6) hl4 (o := .frz o (.tup zs))
              walk_at "w"
              rename_i y5 hy5 y6 hy6
              have p16 := p15.trans p6
              have pp := (((p3.trans p4).trans p5).trans p6)
              have s6 := same_of (same_of s4 hy5 (o := .tup [.int (f : Int), .ref l])) hy6 (o := .tup [.str RES, v, .ref y5])
              refine h (.ref y6) (.res c f sk) _ (p16.same s6) ?_ ?_ ?_
              · refine .tup (.inl (.inl upd_same)) (.cons (.str _) (.cons (dp_tu c _ hgc hv ((Tu.of pp.1).trans (.ofS s6))) (.cons (.tup (.inl (.inl (upd_of hy6 upd_same))) (.cons (.int _) (.cons (.tup (.inl (.inr ⟨o, upd_of hy6 (upd_of hy5 upd_same)⟩)) ?_) .nil))) .nil)))
                exact dpAll_tu _ _ (gd_sk _) hd6 (.ofS s6)
              · exact good_res hgc hdc (by omega)
              · intro u hu
                rcases List.mem_cons.mp hu with z | z
                · omega
                · obtain ⟨p, hp, rfl⟩ := List.mem_map.mp z
                  exact hu6 p hp
          · walk_at "w"
            exact kk _ _ ⟨rfl, rfl⟩
      · rintro σ' H4 ⟨rfl, rfl⟩
        walk_at "w"
        rename_i r2 H3 p3 b1 b2 r3 H5 p5 c1 c2 t1 g1 t2 g2 t3 g3 e1 g4 e2 g5 t4 g6 L1 g7 e3 g8 t5 g9 e4 g10 e5 g11 e6 g12 t6 g13 L2 g14
        refine ⟨L1, L2, [.ref t1, .ref t2, .ref t3, .ref t4], [.ref t5, .ref t6], rfl, rfl, by walk_at "hp", by walk_at "hp", (show 6 ≤ sizeLine by decide), fun L3 g15 => ?_⟩
        generalize hHf : upd _ L3 _ = Hf
        have sH : Same H5 Hf := by rw [← hHf]; walk_at "same"
        have hL3 : Hf L3 = some (.lst [.ref t1, .ref t2, .ref t3, .ref t4, .ref t5, .ref t6]) := by rw [← hHf]; exact upd_same
        have hv' : Dp K Hf v c := dp_tu c _ hgc hv ((Tu.of (p3.trans p5).1).trans (.ofS sH))
        have st : StV K Hf [.ref t1, .ref t2, .ref t3, .ref t4, .ref t5, .ref t6]
          [.oth "given" c .none, .oth "part" c (.int (1 + r2)), .oth "same" c .none, .oth "chain" c (.tuple [.int (1 + r2), .tuple [.int (1 + r3), .int (1 + r2)]]), .oth "like" c (.tuple [.int (1 + r2), .int (1 + r3)]), .oth "sum" c (.tuple [.tuple [.int (1 + r2), .int 1], .tuple [.int 1, .int (1 + r3)]])] := by
          refine .cons (.tup (.inl (.inl ?_)) (.cons (.str _) (.cons hv' (.cons .non .nil)))) (.cons (.tup (.inl (.inl ?_)) (.cons (.str _) (.cons hv' (.cons (.int _) .nil)))) (.cons (.tup (.inl (.inl ?_)) (.cons (.str _) (.cons hv' (.cons .non .nil)))) (.cons (.tup (.inl (.inl ?_)) (.cons (.str _) (.cons hv' (.cons (.tup (a := e2) (.inl (.inl ?_)) (.cons (.int _) (.cons (.tup (a := e1) (.inl (.inl ?_)) (.cons (.int _) (.cons (.int _) .nil))) .nil))) .nil)))) (.cons (.tup (.inl (.inl ?_)) (.cons (.str _) (.cons hv' (.cons (.tup (a := e3) (.inl (.inl ?_)) (.cons (.int _) (.cons (.int _) .nil))) .nil)))) (.cons (.tup (.inl (.inl ?_)) (.cons (.str _) (.cons hv' (.cons (.tup (a := e6) (.inl (.inl ?_)) (.cons (.tup (a := e4) (.inl (.inl ?_)) (.cons (.int _) (.cons (.int _) .nil))) (.cons (.tup (a := e5) (.inl (.inl ?_)) (.cons (.int _) (.cons (.int _) .nil))) .nil))) .nil)))) .nil)))))
          all_goals (rw [← hHf]; walk_at "hp")
        clear hHf
        have pf := (((p3.trans p5)).same sH)
        have gS : ∀ s ∈ ([.oth "given" c .none, .oth "part" c (.int (1 + r2)), .oth "same" c .none, .oth "chain" c (.tuple [.int (1 + r2), .tuple [.int (1 + r3), .int (1 + r2)]]), .oth "like" c (.tuple [.int (1 + r2), .int (1 + r3)]), .oth "sum" c (.tuple [.tuple [.int (1 + r2), .int 1], .tuple [.int 1, .int (1 + r3)]])] : List Stp), GoodS s ∧ uses s = [] := by
          intro s hs
          simp only [List.mem_cons, List.not_mem_nil, or_false] at hs
          rcases hs with rfl | rfl | rfl | rfl | rfl | rfl
          all_goals exact ⟨good_oth hgc hdc (by rfl) (by simp [PyData.depth, PyData.depthAll]) (by decide), rfl⟩
        walk_at "w"
        rename_i r4 H6 p6 d1 d2
        have ndq : L3 ≠ q := fun e => by
          subst e
          obtain ⟨o, e1, hp⟩ := pf.2
          rw [hL3] at e1
          obtain ⟨c, k, b, s, rfl⟩ := hp
          simp at e1
        have hL6 := p6.3 _ _ ndq hL3
        have hS6 : SqL K H6 L3 _ := .inl (.inl hL6)
        obtain ⟨j, rfl⟩ : ∃ j : Nat, r4 = (j : Int) := ⟨r4.toNat, by omega⟩
        obtain ⟨v2, _, ha3, hd3⟩ := st.at (i := j) (by simp; omega)
        obtain ⟨gs1, gs2⟩ := gS _ (List.getElem_mem (show j < 6 by omega))
        walk_at "w"
        refine h _ _ _ ((px.trans pf).trans p6) (dp_tu _ _ gs1.1 hd3 (Tu.of p6.1)) gs1 fun u hu => ?_
        rw [gs2] at hu
        simp at hu
end
end L

namespace L
open PySem PySem.Spec PyProof.Rows L2 Z M DT MK
section
variable {P : Program} {w : World} {K : PySem.W.Frag} {mg : Str → Option Value} {base : Heap}
/-- what is known of the wanted ones behind the numbers from m on -/
def WantI (ss : List Stp) (ks : List Int) (m : Nat) : Prop := (∀ x ∈ ks, x < 0 ∨ ∃ n : Nat, x = (n : Int) ∧ Reach ss n) ∧ (∀ n, ss.length = n + 1 → (n : Int) ∈ ks) ∧ ∀ (n : Nat) (s : Stp), (n : Int) ∈ ks → m ≤ n → ss[n]? = some s → ∀ u ∈ uses s, (u : Int) ∈ ks
theorem want_zero {ss : List Stp} : WantI ss [(ss.length : Int) - 1] ss.length := by
  refine ⟨fun x hx => ?_, fun n e => ?_, fun n s hn hm hs => ?_⟩
  · obtain rfl := List.mem_singleton.mp hx
    by_cases h : ss.length = 0
    · exact .inl (by omega)
    · exact .inr ⟨ss.length - 1, by omega, .last (by omega)⟩
  · rw [e]
    exact List.mem_singleton.mpr (by omega)
  · have := (List.getElem?_eq_some_iff.mp hs).1
    omega
theorem want_skip {ss : List Stp} {ks : List Int} {m : Nat} (h : WantI ss ks (m + 1)) (hm : (m : Int) ∈ ks → ∀ s, ss[m]? = some s → uses s = []) : WantI ss ks m := ⟨h.1, h.2.1, fun n s hn hmn hs u hu => by
  rcases Nat.lt_or_eq_of_le hmn with z | z
  · exact h.2.2 n s hn z hs u hu
  · subst z
    rw [hm hn s hs] at hu
    simp at hu⟩
theorem want_add {ss : List Stp} {ks : List Int} {m : Nat} {s : Stp} (hok : Ok ss) (h : WantI ss ks (m + 1)) (hm : (m : Int) ∈ ks) (hs : ss[m]? = some s) : WantI ss (ks ++ inz (uses s)) m := by
  have hr : Reach ss m := by
    rcases h.1 _ hm with z | ⟨n, e, r⟩
    · omega
    · obtain rfl : m = n := Int.ofNat.inj e
      exact r
  refine ⟨fun x hx => ?_, fun n e => List.mem_append.mpr (.inl (h.2.1 n e)), fun n t hn hmn ht u hu => ?_⟩
  · rcases List.mem_append.mp hx with z | z
    · exact h.1 x z
    · obtain ⟨u, hu, rfl⟩ := List.mem_map.mp z
      exact .inr ⟨u, rfl, .use hr hs hu⟩
  · rcases Nat.lt_or_eq_of_le hmn with z | z
    · rcases List.mem_append.mp hn with y | y
      · exact List.mem_append.mpr (.inl (h.2.2 n t y z ht u hu))
      · have := hok _ _ hs n (mem_inz.mp y)
        omega
    · subst z
      rw [hs] at ht
      obtain rfl := Option.some.inj ht
      exact List.mem_append.mpr (.inr (mem_inz.mpr hu))
def keptN (ks : List Int) (j : Nat) : List Nat := (List.range j).filter fun n => decide ((n : Int) ∈ ks)
theorem kept_kl {ss : List Stp} {ks : List Int} (hok : Ok ss) (h : WantI ss ks 0) : KL ss (keptN ks ss.length) := by
  refine ⟨List.pairwise_lt_range.filter _, fun n => ?_⟩
  have hr : (n : Int) ∈ ks ↔ Reach ss n := closed_reach (P := fun n => (n : Int) ∈ ks) (fun n hn => by
    rcases h.1 _ hn with z | ⟨m, e, r⟩
    · omega
    · obtain rfl : n = m := Int.ofNat.inj e
      exact r) h.2.1 (fun n s hn hs u hu => h.2.2 n s hn (Nat.zero_le _) hs u hu) n
  unfold keptN
  rw [List.mem_filter, List.mem_range]
  constructor
  · rintro ⟨_, h2⟩
    exact hr.mp (of_decide_eq_true h2)
  · intro r
    exact ⟨reach_lt hok r, decide_eq_true (hr.mpr r)⟩
theorem flat_inz : ∀ ls : List Int, (ls.map V.int).all flatV = true
  | [] => rfl
  | _ :: ls => flat_inz ls
theorem w_inI {p : Addr} {x : Int} {ls : List Int} {H : Hp} {Q : VK} (h : SqL K H p (ls.map V.int)) (q : Q (.bl (decide (x ∈ ls))) H) : rIn K false (.int x) (.ref p) H Q := w_opin (.inl h) rfl (flat_inz ls) (by rw [inV_int]; exact q)
theorem keptN_succ (ks : List Int) (j : Nat) : keptN ks (j + 1) = keptN ks j ++ if (j : Int) ∈ ks then [j] else [] := by
  unfold keptN
  rw [List.range_succ, List.filter_append]
  congr 1
  by_cases h : (j : Int) ∈ ks
  · rw [if_pos h]; simp [h]
  · rw [if_neg h]; simp [h]
theorem nint_at {ns : List Nat} {i n : Nat} (h : ns[i]? = some n) : (nint ns)[i]? = some (.int (n : Int)) := by
  unfold nint
  rw [List.getElem?_map, h]
  rfl
theorem flat_nint (ns : List Nat) : (nint ns).all flatV = true := by rw [nint_inz]; exact flat_inz _
theorem w_index {D : Addr} {ns : List Nat} {f : Nat} {H : Hp} {Q : VK} (h : SqL K H D (nint ns)) (hp : ns.Pairwise (· < ·)) (hm : f ∈ ns) (q : Q (.int (posn ns f : Int)) H) : rIndex K (.ref D) [.int (f : Int)] H Q := by
  refine ⟨D, nint ns, .int (f : Int), posn ns f, .int (f : Int), rfl, rfl, h, rfl, flat_nint ns, nint_at (at_posn hm), ?_, fun m z hz e => ?_, q⟩
  · exact beq_self_eq_true (f : Int)
  · obtain ⟨n, g1, rfl, _⟩ := nint_get e
    have hmlt := (List.getElem?_eq_some_iff.mp g1).1
    have hpl := posn_lt hm
    have h1 := List.pairwise_iff_getElem.mp hp m (posn ns f) hmlt hpl hz
    have h2 := (List.getElem?_eq_some_iff.mp g1).2
    have h3 := (List.getElem?_eq_some_iff.mp (at_posn hm)).2
    show ((n : Int) == (f : Int)) = false
    rw [beq_eq_false_iff_ne]
    omega
theorem rIndex_ne {x y : V} {H : Hp} {Q : VK} (h : rIndex K x [y] H Q) : rIndex K x [y] H Q := h
theorem gd_oth {k : Str} {c d : PyData} (h : GoodS (.oth k c d)) : gd c = true ∧ gd d = true ∧ True := by
  obtain ⟨h1, _, _⟩ := h
  simp only [toD, gd, gdAll, Bool.and_eq_true] at h1
  exact ⟨h1.2.2.1, h1.2.2.2.1, trivial⟩
def spDue (K : PySem.W.Frag) : Sp := fun vs H Q _ => ∃ (a : Addr) (us : List V) (ss : List Stp), vs = [.ref a] ∧ H a = some (.lst us) ∧ StV K H us ss ∧ AllG ss ∧ Ok ss ∧ ss.length ≤ 60 ∧ ∀ p ws ns H', H p = none → Same H H' → H' p = some (.lst ws) → KL ss ns → StV K H' ws (trimL ss ns) → Q (.ref p) H'
theorem use_due {a : Addr} {us : List V} {ss : List Stp} {H : Hp} {Q : VK} {E : XK} (h1 : H a = some (.lst us)) (h2 : StV K H us ss) (h3 : AllG ss) (h4 : Ok ss) (h5 : ss.length ≤ 60) (h : ∀ p ws ns H', H p = none → Same H H' → H' p = some (.lst ws) → KL ss ns → StV K H' ws (trimL ss ns) → Q (.ref p) H') : spDue K [.ref a] H Q E := ⟨a, us, ss, rfl, h1, h2, h3, h4, h5, h⟩
theorem ok_due (T : Txt K mg) : FnOk P w K mg base CX0 1 T.f_due T.fd_due ["_law_steps"] (spDue K) := by
  refine T.F_due.ok sc_due (fun vs H Q E h => ?_) (fun cdv A outer s H vs Q E hr h => ?_)
  · obtain ⟨a, us, ss, rfl, _⟩ := h
    rfl
  · obtain ⟨a, us, ss, rfl, ha, hst, hg, hok, hlen, h⟩ := h
    have hvl := hst.len
    refine ⟨_, (pss_cons (ps_set (i := 1) sc_due.nd rfl (.inl rfl) (pe_op op_sub (pe_callB call_len_seq (by rfl) T.m_len (by decide +kernel) (pa_cons (pv 0) pa_nil)) pe_int))
 (pss_cons (ps_set (i := 2) sc_due.nd rfl (.inr rfl) (pe_lst (pa_cons (pv 1) pa_nil)))
 (pss_cons (ps_for PassesOwn.never rfl (pi_range1 (by rfl) T.m_range (pa_cons (pe_callB call_len_seq (by rfl) T.m_len (by decide +kernel) (pa_cons (pv 0) pa_nil)) pa_nil)) (pg_name (i := 3) sc_due.nd rfl (.inl rfl)) (pss_one (ps_if (PW.pt (pw_and (pt_cmpR op_in_seq (pe_op op_sub (pv 1) (pv 3)) (pv 2) rfl) (pw_and1 (pt_cmpR op_eq (pe_ix ix_tup (pe_ix ix_list (pv 0) (pe_op op_sub (pv 1) (pv 3)) (fun _ _ => rfl)) pe_int (fun _ _ => rfl)) pe_str (nomark _))))) (pss_cons (ps_set (i := 4) sc_due.nd rfl (.inl rfl) (pe_ix ix_tup (pe_ix ix_list (pv 0) (pe_op op_sub (pv 1) (pv 3)) (fun _ _ => rfl)) pe_int (fun _ _ => rfl)))
 (pss_one (ps_set (i := 2) sc_due.nd rfl (.inr rfl) (pe_op op_cat (pe_op op_cat (pv 2) (pe_lst (pa_cons (pe_ix ix_tup (pv 4) pe_int (fun _ _ => rfl)) pa_nil))) (pe_lc (own := [("_law_pair", 5)]) (g := gName 5) (tt := tYes) (by rfl) sc_due.nd (pi_tup (pe_ix ix_tup (pv 4) pe_int (fun _ _ => rfl))) (blkOk_by (own := [("_law_pair", 5)]) (N := N_due) (sc := defScope s_due) (by decide +kernel)) (fun _ _ _ _ _ => pg_name (i := 5) sc_due.nd rfl (Or.inl rfl)) (fun _ _ _ _ _ => pts_nil) (fun _ _ _ _ _ => (pe_ix (show IxR _ (rIxT K) from ix_tup) (pv 5) pe_int (fun _ _ => rfl)))))))) pss_nil)))
 (pss_cons (ps_set (i := 6) sc_due.nd rfl (.inr rfl) (pe_lc (own := [("_law_k", 3)]) (g := gName 3) (by rfl) sc_due.nd (pi_range1 (by rfl) T.m_range (pa_cons (pe_callB call_len_seq (by rfl) T.m_len (by decide +kernel) (pa_cons (pv 0) pa_nil)) pa_nil)) (blkOk_by (own := [("_law_k", 3)]) (N := N_due) (sc := defScope s_due) (by decide +kernel)) (fun _ _ _ _ _ => pg_name (i := 3) sc_due.nd rfl (Or.inl rfl)) (fun _ _ _ _ _ => pts_one (pt_cmpR (show OpR _ _ (rIn K false) from op_in_seq) (pv 3) (pv 2) rfl)) (fun _ _ _ _ _ => (pv 3))))
 (pss_cons (ps_set (i := 7) sc_due.nd rfl (.inl rfl) (pe_lst pa_nil))
 (pss_cons (ps_for PassesOwn.never rfl (pi_list (pv 6)) (pg_name (i := 3) sc_due.nd rfl (.inl rfl)) (pss_cons (ps_asg (pe_ix ix_list (pv 0) (pv 3) (fun _ _ => rfl)) (pg_tup (by rfl) (pgs_cons (pg_name (i := 8) sc_due.nd rfl (.inl rfl)) (pgs_cons (pg_name (i := 9) sc_due.nd rfl (.inl rfl)) (pgs_cons (pg_name (i := 4) sc_due.nd rfl (.inl rfl)) pgs_nil)))))
 (pss_cons (ps_if (pt_cmpR op_eq (pv 8) pe_str (nomark _)) (pss_one (ps_set (i := 4) sc_due.nd rfl (.inl rfl) (pe_tup (pa_cons (pe_bm PySem.F.plainAttrs_list PySem.F.slot_list_index PySem.F.type_list_index mt_index (pv 6) (pa_cons (pe_ix ix_tup (pv 4) pe_int (fun _ _ => rfl)) pa_nil)) (pa_cons (pe_callTy DT.call_tupleZ (by rfl) T.m_tuple (by decide +kernel) (pa_cons (pe_lc (own := [("_law_pair", 5)]) (g := gName 5) (tt := tYes) (by rfl) sc_due.nd (pi_tup (pe_ix ix_tup (pv 4) pe_int (fun _ _ => rfl))) (blkOk_by (own := [("_law_pair", 5)]) (N := N_due) (sc := defScope s_due) (by decide +kernel)) (fun _ _ _ _ _ => pg_name (i := 5) sc_due.nd rfl (Or.inl rfl)) (fun _ _ _ _ _ => pts_nil) (fun _ _ _ _ _ => (pe_tup (pa_cons (pe_ix (show IxR _ (rIxT K) from ix_tup) (pv 5) pe_int (fun _ _ => rfl)) (pa_cons (show PE _ _ (tBM K "list" (rIndex K) _ _) from pe_bm PySem.F.plainAttrs_list PySem.F.slot_list_index PySem.F.type_list_index mt_index (pv 6) (pa_cons (pe_ix (show IxR _ (rIxT K) from ix_tup) (pv 5) pe_int (fun _ _ => rfl)) pa_nil)) pa_nil))))) pa_nil)) pa_nil))))) pss_nil)
 (pss_one (ps_expr (pe_bm PySem.F.plainAttrs_list PySem.F.slot_list_append PySem.F.type_list_append mt_append (pv 7) (pa_cons (pe_tup (pa_cons (pv 8) (pa_cons (pv 9) (pa_cons (pv 4) pa_nil)))) pa_nil)))))))
 (pss_one (ps_ret (pv 7))))))))), ?_⟩
    refine Z.w_start (σ' := [some (.ref a), none, none, none, none, none, none, none, none, none]) rfl ?_
    walk_at "w"
    rename_i w0 hw0
    refine ⟨by omega, by omega, ?_⟩
    have e1 : ((us.length : Int)).toNat = ss.length := by omega
    rw [e1]
    refine for_range (fun i σ H' => ∃ w ks x3 x4, σ = [some (.ref a), some (.int ((us.length : Int) - 1)), some (.ref w), x3, x4, none, none, none, none, none] ∧ Same H H' ∧ H' w = some (.lst (ks.map V.int)) ∧ WantI ss ks (ss.length - i) ∧ ks.length ≤ 1 + 51 * i ∧ i ≤ ss.length) ?_ ?_ ?_
    · refine ⟨w0, [(us.length : Int) - 1], none, none, rfl, same_of (Same.refl _) hw0, upd_same, ?_, Nat.le_refl _, Nat.zero_le _⟩
      rw [hvl]
      exact want_zero
    · rintro i σ H' hi ⟨w1, ks, x3, x4, rfl, sm, hw, hI, hkl, hil⟩
      obtain ⟨m, hm⟩ : ∃ m, ss.length - i = m + 1 := ⟨ss.length - i - 1, by omega⟩
      have hm2 : ss.length - (i + 1) = m := by omega
      rw [hm] at hI
      have hml : m < ss.length := by omega
      have e3 : (us.length : Int) - 1 - (0 + (i : Int)) = (m : Int) := by omega
      have hwS : SqL K H' w1 (ks.map V.int) := .inl (.inl hw)
      walk_at "w"
      refine w_inI hwS ?_
      walk_at "w"
      walk_at "wi"
      · rename_i hc
        rw [e3] at hc
        have hgm := hg _ (List.getElem_mem hml)
        obtain ⟨v, _, ha1, hdv⟩ := hst.at hml
        have hsm := List.getElem?_eq_getElem hml
        rw [← e3] at ha1
        have hSa : SqL K H' a us := .inl (.inl (sm _ _ ha))
        generalize ss[m] = s at hgm hdv hsm
        cases s with
        | oth k c d =>
          obtain ⟨t, x, y, rfl, h1, h2, h3⟩ := step_oth hdv
          have hk : ¬ V.str k = V.str "resolve" := fun z => hgm.2.2 (V.str.inj z)
          have h1' := sqT_tu h1 (.ofS sm)
          walk_at "w"
          refine ⟨w1, ks, _, _, rfl, sm, hw, ?_, by omega, hi⟩
          rw [hm2]
          refine want_skip hI fun _ s' hs' => ?_
          rw [hsm] at hs'
          obtain rfl := Option.some.inj hs'
          rfl
        | res c f sk =>
          obtain ⟨t, x, y, u, ws, rfl, h1, h2, h3, h4, h5⟩ := step_res hdv
          have hl := DpAll.len h5
          rw [List.length_map] at hl
          have hsk : sk.length ≤ 50 := hgm.2.2
          have h1' := sqT_tu h1 (.ofS sm)
          have h3' := sqT_tu h3 (.ofS sm)
          walk_at "w"
          rename_i q hq
          have s1 := same_of sm hq (o := .lst [.int (f : Int)])
          have nq : w1 ≠ q := fun e => by subst e; rw [hw] at hq; cases hq
          refine ⟨w1, q, _, _, rfl, rfl, by rw [upd_ne nq]; exact hw, upd_same, ?_, fun q2 hq2 => ?_⟩
          · rw [List.length_map, List.length_singleton]
            exact Nat.le_trans (show ks.length + 1 ≤ 4000 by omega) (by decide)
          have s2 := same_of s1 hq2 (o := .lst (ks.map V.int ++ [.int (f : Int)]))
          have h3'' := sqT_tu h3 (.ofS s2)
          walk_at "w"
          refine fun D hD => lc_tup (K := K) (xs := ws) (fun i H3 => Same (upd (upd H' q (.lst [.int (f : Int)])) q2 (.lst (ks.map V.int ++ [.int (f : Int)]))) H3 ∧ H3 D = some (.lst (nint ((sk.map (·.2)).take i))) ∧ i ≤ 50) ?_ ?_ ?_ ?_
          · exact ⟨same_of (Same.refl _) hD, upd_same, by decide⟩
          · rintro i H3 _ ⟨s3, _⟩
            exact sqT_tu h4 (.ofS (s2.trans s3))
          · rintro i v H3 hv ⟨s3, e2, hi⟩
            obtain ⟨p, t2, k1, rfl, k2⟩ := sk_dp h5 hv
            have hil : i < sk.length := (List.getElem?_eq_some_iff.mp k1).1
            have k2' := sqT_tu k2 (.ofS (s2.trans s3))
            have k3 : (sk.map (·.2))[i]? = some p.2 := by rw [List.getElem?_map, k1]; rfl
            refine Z.w_gname (σ' := [some (.ref a), some (.int ((us.length : Int) - 1)), some (.ref w1), _, some (.ref y), some (.ref t2), none, none, none, none]) rfl ⟨rfl, ?_⟩
            walk_at "w"
            refine ⟨_, e2, ?_, same_mut s3 hD, by rw [upd_same, nint_snoc k3], by omega⟩
            rw [nint_len, List.length_take, List.length_map]
            exact Nat.lt_of_le_of_lt (Nat.min_le_left _ _) (Nat.lt_trans (show i < 1000 by omega) (by decide))
          · rintro H3 ⟨s3, e2, _⟩
            rw [hl] at e2
            have e9 : (sk.map (·.2)).take sk.length = sk.map (·.2) := List.take_of_length_le (by rw [List.length_map]; exact Nat.le_refl _)
            rw [e9] at e2
            refine ⟨q2, D, _, _, rfl, rfl, s3 _ _ upd_same, e2, ?_, fun q3 hq3 => ?_⟩
            · rw [List.length_append, List.length_map, List.length_singleton, nint_len, List.length_map]
              exact Nat.le_trans (show ks.length + 1 + sk.length ≤ 4000 by omega) (by decide)
            · walk_at "w"
              refine ⟨q3, ks ++ inz (uses (.res c f sk)), _, _, rfl, same_of (s2.trans s3) hq3, ?_, ?_, ?_, by omega⟩
              · rw [upd_same, List.map_append, ← nint_inz]
                show some (HO.lst (_ ++ [V.int (f : Int)] ++ nint (sk.map (·.2)))) = some (HO.lst (_ ++ nint (f :: sk.map (·.2))))
                rw [List.append_assoc]
                rfl
              · rw [hm2]
                exact want_add hok hI hc hsm
              · rw [List.length_append, inz_len]
                show ks.length + (f :: sk.map (·.2)).length ≤ _
                rw [List.length_cons, List.length_map]
                omega
      · rename_i hc
        rw [e3] at hc
        walk_at "w"
        refine ⟨w1, ks, _, _, rfl, sm, hw, ?_, by omega, hi⟩
        rw [hm2]
        exact want_skip hI fun h => absurd h hc
    · rintro σ H' ⟨w1, ks, x3, x4, rfl, sm, hw, hI, hkl, hil⟩
      rw [Nat.sub_self] at hI
      walk_at "w"
      refine ⟨a, us, rfl, .inl (.inl (.inl (sm _ _ ha))), ?_⟩
      refine ⟨_, rfl, by omega, by omega, fun D hD => ?_⟩
      rw [e1]
      refine lc_range (lo := 0) (n := ss.length) (fun j H5 => Same H' H5 ∧ j ≤ ss.length ∧ H5 D = some (.lst (nint (keptN ks j)))) ?_ ?_ ?_
      · exact ⟨same_of (Same.refl _) hD, Nat.zero_le _, upd_same⟩
      · rintro j H5 hj ⟨s5, hjl, e5⟩
        refine Z.w_gname (σ' := [some (.ref a), some (.int ((us.length : Int) - 1)), some (.ref w1), some (.int (0 + (j : Int))), x4, none, none, none, none, none]) ?_ ⟨rfl, ?_⟩
        · rfl
        have e4 : (0 : Int) + (j : Int) = (j : Int) := by omega
        rw [e4]
        walk_at "w"
        have hw5 : SqL K H5 w1 (ks.map V.int) := .inl (.inl (s5 _ _ hw))
        refine w_inI hw5 ?_
        walk_at "w"
        walk_at "wi"
        · rename_i hc
          walk_at "w"
          refine ⟨_, e5, ?_, same_mut s5 hD, hj, ?_⟩
          · rw [nint_len]
            refine Nat.lt_of_le_of_lt (List.length_filter_le _ _) ?_
            rw [List.length_range]
            exact Nat.lt_trans (show j < 100 by omega) (by decide)
          · rw [upd_same, keptN_succ, if_pos hc]
            unfold nint
            rw [List.map_append]
            rfl
        · rename_i hc
          refine ⟨s5, hj, ?_⟩
          rw [keptN_succ, if_neg hc, List.append_nil]
          exact e5
      · rintro H5 ⟨s5, _, e5⟩
        have hkl := kept_kl hok hI
        generalize keptN ks ss.length = ns at *
        have hkn := kl_len hok hkl
        walk_at "w"
        rename_i q0 hq0
        have nDq : D ≠ q0 := fun e => by subst e; rw [e5] at hq0; cases hq0
        have sH := sm.trans s5
        refine for_list (K := K) (xs := nint ns) (fun j σ H6 => ∃ x3 x4 x8 x9 ws, σ = [some (.ref a), some (.int ((us.length : Int) - 1)), some (.ref w1), x3, x4, none, some (.ref D), some (.ref q0), x8, x9] ∧ Same H5 H6 ∧ H6 q0 = some (.lst ws) ∧ StV K H6 ws ((trimL ss ns).take j) ∧ j ≤ ns.length) ?_ ?_ ?_ ?_
        · exact ⟨_, _, _, _, [], rfl, same_of (Same.refl _) hq0, upd_same, .nil, Nat.zero_le _⟩
        · rintro j σ H6 hj ⟨x3, x4, x8, x9, ws, rfl, s6, _⟩
          exact .inl (.inl (s6 _ _ e5))
        · rintro j x σ H6 hx ⟨x3, x4, x8, x9, ws, rfl, s6, e6, hst6, hjl⟩
          obtain ⟨n, g1, rfl, g3⟩ := nint_get hx
          have hj := (List.getElem?_eq_some_iff.mp g1).1
          have hmem := List.mem_of_getElem? g1
          have hml := reach_lt hok ((hkl.2 n).mp hmem)
          have hgm := hg _ (List.getElem_mem hml)
          obtain ⟨v, _, ha1, hdv⟩ := hst.at hml
          have sA := sH.trans s6
          have hSa : SqL K H6 a us := .inl (.inl (sA _ _ ha))
          have hSD : SqL K H6 D (nint ns) := .inl (.inl (s6 _ _ e5))
          have hsm := List.getElem?_eq_getElem hml
          have g2 := trimL_get (steps := ss) g1
          have g4 : ss.getD n d0 = ss[n] := by
            rw [List.getD_eq_getElem?_getD, hsm]
            rfl
          rw [g4] at g2
          have hgall : AllG ((trimL ss ns).take j) := fun s hs => by
            obtain ⟨y, hy, rfl⟩ := List.mem_map.mp (List.mem_of_mem_take hs)
            have h9 := steps_at hok hkl hy
            exact good_ren (hg _ (List.mem_of_getElem? h9)) _
          have huse : ∀ u ∈ uses ss[n], u ∈ ns := fun u hu => (hkl.2 u).mpr (.use ((hkl.2 n).mp hmem) hsm hu)
          generalize ss[n] = s at hgm hdv hsm g2 huse
          cases s with
          | oth k c d =>
            obtain ⟨t, x, y, rfl, h1, h2, h3⟩ := step_oth hdv
            have hk : ¬ V.str k = V.str "resolve" := fun z => hgm.2.2 (V.str.inj z)
            have h1' := sqT_tu h1 (.ofS sA)
            walk_at "w"
            refine Z.w_bm ?_
            walk_at "w"
            refine ⟨.inl ⟨rfl, _, .inl (.inl e6)⟩, ?_⟩
            walk_at "w"
            rename_i t2 ht2
            have s7 := same_of (Same.refl H6) ht2 (o := .tup [.str k, x, y])
            have e7 := s7 _ _ e6
            have tu := (Tu.of ((Mo.refl (upd H6 t2 (.tup [.str k, x, y]))).lst e7 (o := .lst (ws ++ [.ref t2]))))
            have nt : t2 ≠ q0 := fun e => by subst e; rw [e6] at ht2; cases ht2
            refine ⟨q0, ws, _, rfl, rfl, e7, ?_, ?_⟩
            · rw [hst6.len, List.length_take]
              exact Nat.lt_of_le_of_lt (Nat.min_le_left _ _) (Nat.lt_trans (show j < 100 by omega) (by decide))
            · walk_at "w"
              refine ⟨_, _, _, _, ws ++ [.ref t2], rfl, same_mut (s6.trans s7) hq0, upd_same, ?_, hj⟩
              rw [List.take_add_one, g2]
              refine (hst6.tu hgall ((Tu.ofS s7).trans tu)).snoc ?_
              have tuA := ((Tu.ofS (sA.trans s7)).trans tu)
              obtain ⟨gd1, gd2, _⟩ := gd_oth hgm
              exact .tup (.inl (.inl (by rw [upd_ne nt, upd_same]))) (.cons (.str _) (.cons (dp_tu c _ gd1 h2 tuA) (.cons (dp_tu d _ gd2 h3 tuA) .nil)))
          | res c f sk =>
            obtain ⟨t, x, y, u, zs, rfl, h1, h2, h3, h4, h5⟩ := step_res hdv
            have hl := DpAll.len h5
            rw [List.length_map] at hl
            have hsk : sk.length ≤ 50 := hgm.2.2
            have h1' := sqT_tu h1 (.ofS sA)
            have h3' := sqT_tu h3 (.ofS sA)
            walk_at "w"
            have hgc := gd_parts hgm rfl
            refine Z.w_bm ?_
            walk_at "w"
            refine ⟨.inl ⟨rfl, _, hSD⟩, ?_⟩
            walk_at "w"
            refine w_index hSD hkl.1 (huse f List.mem_cons_self) ?_
            walk_at "w"
            intro L hL
            refine lc_tup (K := K) (xs := zs) (fun i H7 => Same H6 H7 ∧ i ≤ 50 ∧ ∃ vs, H7 L = some (.lst vs) ∧ DpAll K H7 vs (((sk.take i).map fun x => (x.1, posn ns x.2)).map skD)) ?_ ?_ ?_ ?_
            · exact ⟨same_of (Same.refl _) hL, by decide, [], upd_same, .nil⟩
            · rintro i H7 _ ⟨s7, _⟩
              exact sqT_tu h4 (.ofS (sA.trans s7))
            · rintro i v H7 hv ⟨s7, hi, vs, e2, dv⟩
              obtain ⟨p, t2, k1, rfl, k2⟩ := sk_dp h5 hv
              have hil : i < sk.length := (List.getElem?_eq_some_iff.mp k1).1
              have k2' := sqT_tu k2 (.ofS (sA.trans s7))
              have hpu := huse p.2 (List.mem_cons_of_mem _ (List.mem_map_of_mem (List.mem_of_getElem? k1)))
              have hSD7 : SqL K H7 D (nint ns) := .inl (.inl (s7 _ _ (s6 _ _ e5)))
              refine Z.w_gname (σ' := [some (.ref a), some (.int ((us.length : Int) - 1)), some (.ref w1), some (.int (n : Int)), some (.ref y), some (.ref t2), some (.ref D), some (.ref q0), some (.str RES), some x]) rfl ⟨rfl, ?_⟩
              walk_at "w"
              refine Z.w_bm ?_
              walk_at "w"
              refine ⟨.inl ⟨rfl, _, hSD7⟩, ?_⟩
              walk_at "w"
              refine w_index hSD7 hkl.1 hpu ?_
              walk_at "w"
              rename_i t3 ht3
              have s8 := same_of (Same.refl H7) ht3 (o := .tup [.int p.1, .int (posn ns p.2 : Int)])
              refine ⟨vs, s8 _ _ e2, ?_, same_mut (s7.trans s8) hL, by omega, _, upd_same, ?_⟩
              · rw [DpAll.len dv, List.length_map, List.length_map, List.length_take]
                exact Nat.lt_of_le_of_lt (Nat.min_le_left _ _) (Nat.lt_trans (show i < 1000 by omega) (by decide))
              · rw [sk_snoc k1]
                have tu : Tu H7 (upd (upd H7 t3 (.tup [.int p.1, .int (posn ns p.2 : Int)])) L (.lst (vs ++ [.ref t3]))) := Tu.of ((Mo.of s8).trans ((Mo.refl _).lst (s8 _ _ e2)))
                have nt : t3 ≠ L := by
                  rintro rfl
                  rw [e2] at ht3
                  cases ht3
                refine DpAll.app (dpAll_tu _ _ (gd_sk _) dv tu) (.cons (.tup (xs := [.int p.1, .int (posn ns p.2 : Int)]) (.inl (.inl ?_)) (.cons (.int _) (.cons (.int _) .nil))) .nil)
                rw [upd_ne nt, upd_same]
            · rintro H7 ⟨s7, _, vs, e2, dv⟩
              rw [hl, List.take_length] at dv
              walk_at "w"
              refine ⟨L, vs, rfl, .inl (.inl e2), fun l o hl4 hb => ?_⟩
              have s8 := same_of s7 hl4 (o := .frz o (.tup vs))
              walk_at "w"
              rename_i p5 hp5
              have s9 := same_of s8 hp5 (o := .tup [.int (posn ns f : Int), .ref l])
              have e9 := s9 _ _ e6
              refine Z.w_bm ?_
              walk_at "w"
              refine ⟨.inl ⟨rfl, _, .inl (.inl e9)⟩, ?_⟩
              walk_at "w"
              rename_i t6 ht6
              have s10 := same_of s9 ht6 (o := .tup [.str RES, x, .ref p5])
              have e10 := s10 _ _ e6
              refine ⟨q0, ws, _, rfl, rfl, e10, ?_, ?_⟩
              · rw [hst6.len, List.length_take]
                exact Nat.lt_of_le_of_lt (Nat.min_le_left _ _) (Nat.lt_trans (show j < 100 by omega) (by decide))
              · walk_at "w"
                refine ⟨_, _, _, _, ws ++ [.ref t6], rfl, same_mut (s6.trans s10) hq0, upd_same, ?_, hj⟩
                rw [List.take_add_one, g2]
                have tu := (Tu.of ((Mo.refl (upd (upd (upd H7 l (.frz o (.tup vs))) p5 (.tup [.int (posn ns f : Int), .ref l])) t6 (.tup [.str RES, x, .ref p5]))).lst e10 (o := .lst (ws ++ [.ref t6]))))
                refine (hst6.tu hgall ((Tu.ofS s10).trans tu)).snoc ?_
                have tuA := ((Tu.ofS (sA.trans s10)).trans tu)
                have tuB : Tu H7 (upd (upd (upd H7 l (.frz o (.tup vs))) p5 (.tup [.int (posn ns f : Int), .ref l])) t6 (.tup [.str RES, x, .ref p5])) := .ofS (same_of (same_of (same_of (Same.refl _) hl4) hp5) ht6)
                refine dp_tu _ _ (good_ren hgm _).1 (?_ : Dp K (upd (upd (upd H7 l (.frz o (.tup vs))) p5 (.tup [.int (posn ns f : Int), .ref l])) t6 (.tup [.str RES, x, .ref p5])) (.ref t6) _) tu
                refine .tup (.inl (.inl upd_same)) (.cons (.str _) (.cons (dp_tu c _ hgc h2 (.ofS (sA.trans s10))) (.cons (.tup (.inl (.inl (upd_of ht6 upd_same))) (.cons (.int _) (.cons (.tup (.inl (.inr ⟨o, upd_of ht6 (upd_of hp5 upd_same)⟩)) ?_) .nil))) .nil)))
                exact dpAll_tu _ _ (gd_sk _) dv tuB
        · rintro σ H6 ⟨x3, x4, x8, x9, ws, rfl, s6, e6, hst6, _⟩
          rw [nint_len, ← trimL_len (steps := ss), List.take_length] at hst6
          walk_at "w"
          exact h _ _ _ _ (fresh_of sH hq0) (sH.trans s6) e6 hkl hst6
end
end L

namespace L
open PySem PySem.Spec PyProof.Rows L2 Z M DT MK
section
variable {P : Program} {w : World} {K : PySem.W.Frag} {mg : Str → Option Value} {base : Heap}
/-- all but p stays -/
def But (p : Addr) (H H' : Hp) : Prop := ∀ b x, b ≠ p → H b = some x → H' b = some x
theorem But.same {p : Addr} {H H1 H2 : Hp} (b : But p H1 H2) (s : Same H H1) (hn : H p = none) : Same H H2 := fun c x e => b c x (ne_of_none e hn) (s c x e)
theorem But.tu {p : Addr} {H H1 : Hp} {us : List V} (b : But p H H1) (h : H p = some (.lst us)) : Tu H H1 := fun c x n _ e => b c x (fun z => by subst z; rw [h] at e; exact n _ (Option.some.inj e).symm) e
theorem w_appG {i : Nat} {σ : L2.St} {p : Addr} {us : List V} {H : Hp} {Q : VK} (hσ : σ[i]? = some (some (.ref p))) (h : H p = some (.lst us)) (hl : us.length < 1000) (q : ∀ (H2 : Hp) (v : V), But p H H2 → H2 p = some (.lst (us ++ [v])) → Q .non H2) :
    tBM K "list" rAppend (tVar i) (tCons (tTup (tCons (tC (V.str "given")) (tCons (tTup tNil) (tCons (tC .non) tNil)))) tNil) σ H Q := by
  refine Z.w_bm ?_
  refine Z.w_var hσ ⟨.inl ⟨rfl, _, .inl (.inl h)⟩, ?_⟩
  walk_at "w"
  rename_i q1 h1 q2 h2
  have s1 := same_of (same_of (Same.refl H) h1 (o := .tup [])) h2 (o := .tup [.str "given", .ref q1, .non])
  refine ⟨p, us, _, rfl, rfl, s1 _ _ h, Nat.lt_trans hl (by decide), ?_⟩
  exact q _ _ (fun b x n e => by rw [upd_ne n]; exact s1 _ _ e) upd_same
def spTrims (K : PySem.W.Frag) : Sp := fun vs H Q _ => ∃ (a : Addr) (us : List V) (ss : List Stp), vs = [.ref a] ∧ H a = some (.lst us) ∧ StV K H us ss ∧ AllG ss ∧ Ok ss ∧ ss.length ≤ 60 ∧ ∀ H', Same H H' → Q (.bl true) H'
theorem use_trims {a : Addr} {us : List V} {ss : List Stp} {H : Hp} {Q : VK} {E : XK} (h1 : H a = some (.lst us)) (h2 : StV K H us ss) (h3 : AllG ss) (h4 : Ok ss) (h5 : ss.length ≤ 60) (h : ∀ H', Same H H' → Q (.bl true) H') : spTrims K [.ref a] H Q E := ⟨a, us, ss, rfl, h1, h2, h3, h4, h5, h⟩
theorem allG_trim {ss : List Stp} {ns : List Nat} (hg : AllG ss) (hok : Ok ss) (hk : KL ss ns) : AllG (trimL ss ns) := fun s hs => by
  obtain ⟨y, hy, rfl⟩ := List.mem_map.mp hs
  have h9 := steps_at hok hk hy
  exact good_ren (hg _ (List.mem_of_getElem? h9)) _
theorem ok_trims (T : Txt K mg) : FnOk P w K mg base CX0 9 T.f_trims T.fd_trims ["_law_steps"] (spTrims K) := by
  have G_due := ok_due (P := P) (w := w) (base := base) T
  have G_trim := ok_trim (P := P) (w := w) (base := base) T
  have G_alike_lists := ok_alikeL (P := P) (w := w) (base := base) T
  refine T.F_trims.ok sc_trims (fun vs H Q E h => ?_) (fun cdv A outer s H vs Q E hr h => ?_)
  · obtain ⟨a, us, ss, rfl, _⟩ := h
    rfl
  · obtain ⟨a, us, ss, rfl, ha, hst, hg, hok, hlen, h⟩ := h
    refine ⟨_, (pss_cons (ps_set (i := 1) sc_trims.nd rfl (.inl rfl) (pe_call G_due (hr.mono (by first | decide | omega)) (by rfl) T.g_due T.F_due.kp T.b_due .nil pass0 (pa_cons (pv 0) pa_nil)))
 (pss_cons (ps_set (i := 2) sc_trims.nd rfl (.inl rfl) (pe_callTy call_list_of (by rfl) T.m_list (by decide +kernel) (pa_cons (pv 0) pa_nil)))
 (pss_cons (ps_set (i := 3) sc_trims.nd rfl (.inl rfl) (pe_call G_trim (hr.mono (by first | decide | omega)) (by rfl) T.g_trim T.F_trim.kp T.b_trim .nil pass0 (pa_cons (pv 2) pa_nil)))
 (pss_cons (ps_set (i := 4) sc_trims.nd rfl (.inl rfl) (pe_call G_trim (hr.mono (by first | decide | omega)) (by rfl) T.g_trim T.F_trim.kp T.b_trim .nil pass0 (pa_cons (pv 2) pa_nil)))
 (pss_cons (ps_if (pt_not (pt_val (pe_call G_alike_lists (hr.mono (by first | decide | omega)) (by rfl) T.g_alike_lists T.F_alike_lists.kp T.b_alike_lists .nil pass0 (pa_cons (pv 2) (pa_cons (pv 0) pa_nil))))) (pss_one (ps_ret pe_bl)) pss_nil)
 (pss_cons (ps_expr (pe_bm PySem.F.plainAttrs_list PySem.F.slot_list_append PySem.F.type_list_append mt_append (pv 2) (pa_cons (pe_tup (pa_cons pe_str (pa_cons (pe_tup pa_nil) (pa_cons pe_non pa_nil)))) pa_nil)))
 (pss_cons (ps_if (PW.pt (pw_or (pt_not (pt_val (pe_call G_alike_lists (hr.mono (by first | decide | omega)) (by rfl) T.g_alike_lists T.F_alike_lists.kp T.b_alike_lists .nil pass0 (pa_cons (pv 3) (pa_cons (pv 1) pa_nil))))) (pw_or1 (pt_not (pt_val (pe_call G_alike_lists (hr.mono (by first | decide | omega)) (by rfl) T.g_alike_lists T.F_alike_lists.kp T.b_alike_lists .nil pass0 (pa_cons (pv 4) (pa_cons (pv 1) pa_nil)))))))) (pss_one (ps_ret pe_bl)) pss_nil)
 (pss_cons (ps_expr (pe_bm PySem.F.plainAttrs_list PySem.F.slot_list_append PySem.F.type_list_append mt_append (pv 3) (pa_cons (pe_tup (pa_cons pe_str (pa_cons (pe_tup pa_nil) (pa_cons pe_non pa_nil)))) pa_nil)))
 (pss_one (ps_ret (pe_and (pe_call G_alike_lists (hr.mono (by first | decide | omega)) (by rfl) T.g_alike_lists T.F_alike_lists.kp T.b_alike_lists .nil pass0 (pa_cons (pv 4) (pa_cons (pv 1) pa_nil))) (pe_one (pe_call G_alike_lists (hr.mono (by first | decide | omega)) (by rfl) T.g_alike_lists T.F_alike_lists.kp T.b_alike_lists .nil pass0 (pa_cons (pe_call G_trim (hr.mono (by first | decide | omega)) (by rfl) T.g_trim T.F_trim.kp T.b_trim .nil pass0 (pa_cons (pv 4) pa_nil)) (pa_cons (pv 1) pa_nil))))))))))))))), ?_⟩
    refine Z.w_start (σ' := [some (.ref a), none, none, none, none]) rfl ?_
    walk_at "w"
    refine use_due ha hst hg hok hlen fun p1 ws1 ns H1 f1 s1 e1 hkl t1 => ?_
    have gT := allG_trim hg hok hkl
    have lT : (trimL ss ns).length ≤ 60 := by rw [trimL_len]; exact Nat.le_trans (kl_len hok hkl) hlen
    have ha1 := s1 _ _ ha
    walk_at "w"
    intro p2 hp2
    have sb := same_of (Same.refl H1) hp2 (o := .lst us)
    have s2 := s1.trans sb
    walk_at "w"
    refine use_trim upd_same (hst.tu hg (.ofS s2)) hg hok hlen fun p3 ws3 ns3 H3 f3 s3 e3 hk3 t3 => ?_
    obtain rfl := kl_uniq hk3 hkl
    walk_at "w"
    refine use_trim (s3 _ _ upd_same) (hst.tu hg (.ofS (s2.trans s3))) hg hok hlen fun p4 ws4 ns4 H4 f4 s4 e4 hk4 t4 => ?_
    obtain rfl := kl_uniq hk4 hk3
    have sA := (s2.trans s3).trans s4
    walk_at "w"
    refine use_alikeL ((s3.trans s4) _ _ upd_same) (sA _ _ ha) (hst.tu hg (.ofS sA)) (hst.tu hg (.ofS sA)) hg hlen fun H5 s5 => ?_
    have e2 := ((s3.trans s4).trans s5) _ _ (upd_same (H := H1) (a := p2) (o := .lst us))
    walk_at "w"
    have hul : us.length < 1000 := by rw [hst.len]; omega
    refine w_appG rfl e2 hul fun H6 v6 b6 _ => ?_
    have hnp2 := fresh_of s1 hp2
    have s6 := b6.same (sA.trans s5) hnp2
    have tu6 := b6.tu e2
    have n12 : p1 ≠ p2 := fun e => by subst e; rw [e1] at hp2; cases hp2
    have n32 : p3 ≠ p2 := fun e => by subst e; rw [upd_same] at f3; cases f3
    have n42 : p4 ≠ p2 := fun e => by
      subst e
      rw [s3 _ _ upd_same] at f4
      cases f4
    have n34 : p4 ≠ p3 := fun e => by subst e; rw [e3] at f4; cases f4
    have n13 : p1 ≠ p3 := fun e => by
      subst e
      rw [sb _ _ e1] at f3
      cases f3
    have g1 : H6 p1 = some (.lst ws1) := b6 _ _ n12 (s5 _ _ ((s3.trans s4) _ _ (sb _ _ e1)))
    have g3 : H6 p3 = some (.lst ws3) := b6 _ _ n32 (s5 _ _ (s4 _ _ e3))
    have g4 : H6 p4 = some (.lst ws4) := b6 _ _ n42 (s5 _ _ e4)
    have d1 : StV K H6 ws1 (trimL ss ns4) := t1.tu gT ((Tu.ofS (sb.trans ((s3.trans s4).trans s5))).trans tu6)
    have d3 : StV K H6 ws3 (trimL ss ns4) := t3.tu gT ((Tu.ofS (s4.trans s5)).trans tu6)
    have d4 : StV K H6 ws4 (trimL ss ns4) := t4.tu gT ((Tu.ofS s5).trans tu6)
    walk_at "w"
    refine use_alikeL g3 g1 d3 d1 gT lT fun H7 s7 => ?_
    walk_at "w"
    refine use_alikeL (s7 _ _ g4) (s7 _ _ g1) (d4.tu gT (.ofS s7)) (d1.tu gT (.ofS s7)) gT lT fun H8 s8 => ?_
    walk_at "w"
    have s78 := s7.trans s8
    have hwl : ws3.length < 1000 := by rw [t3.len]; omega
    refine w_appG rfl (s78 _ _ g3) hwl fun H9 v9 b9 _ => ?_
    have hnp3 : H p3 = none := fresh_of s2 f3
    have s9 := b9.same (s6.trans s78) hnp3
    have tu9 := (Tu.ofS s78).trans (b9.tu (s78 _ _ g3))
    have g1' : H9 p1 = some (.lst ws1) := b9 _ _ n13 (s78 _ _ g1)
    have g4' : H9 p4 = some (.lst ws4) := b9 _ _ n34 (s78 _ _ g4)
    have d1' := d1.tu gT tu9
    have d4' := d4.tu gT tu9
    walk_at "w"
    refine use_alikeL g4' g1' d4' d1' gT lT fun H10 s10 => ?_
    walk_at "w"
    have hoT := trim_ok hok hkl
    refine use_trim (s10 _ _ g4') (d4'.tu gT (.ofS s10)) gT hoT lT fun p5 ws5 ns5 H11 f5 s11 e5 hk5 t5 => ?_
    obtain rfl := kl_uniq hk5 (trim_kl hok hkl)
    rw [trim_trim hok hkl] at t5
    walk_at "w"
    refine use_alikeL e5 ((s10.trans s11) _ _ g1') t5 (d1'.tu gT (.ofS (s10.trans s11))) gT lT fun H12 s12 => ?_
    walk_at "w"
    exact h _ (s9.trans ((s10.trans s11).trans s12))
end
end L

namespace L
open PySem PySem.Spec PyProof.Rows L2 Z M DT MK
section
variable {P : Program} {w : World} {K : PySem.W.Frag} {mg : Str → Option Value} {base : Heap}
theorem LogAt.same {C : Addr} {H H' : Hp} {o l : Addr} {us : List V} (h : LogAt C H o l us) (s : Same H H') : LogAt C H' o l us := by
  obtain ⟨⟨dx, h1⟩, h2⟩ := h
  exact ⟨⟨dx, s _ _ h1⟩, s _ _ h2⟩
theorem w_logLen {C o l : Addr} {ls : List V} {H : Hp} {Q : VK} (hL : LogAt C H o l ls) (hl : ls.length ≤ 60) (q : Q (.int ls.length) H) : OWN.rLenOwn C (spLen C) [.ref o] H Q := by
  obtain ⟨⟨dx, h1⟩, h2⟩ := id hL
  exact ⟨o, dx, _, rfl, h1, o, l, ls, rfl, hL, ls.length, rfl, Nat.lt_of_le_of_lt hl (by decide), q⟩
theorem w_logList {C o l : Addr} {ls : List V} {H : Hp} {Q : VK} (hL : LogAt C H o l ls) (hl : ls.length ≤ 60) (q : ∀ p H', H p = none → Same H H' → H' p = some (.lst ls) → Q (.ref p) H') : OWN.rListIt K C (spIter C) (spLen C) [.ref o] H Q := by
  obtain ⟨⟨dx, h1⟩, h2⟩ := id hL
  refine ⟨o, dx, _, rfl, h1, fun p hp => ⟨o, l, ls, rfl, hL.same (same_of (Same.refl _) hp), fun it hit => ?_⟩⟩
  have s1 := same_of (Same.refl H) hp (o := .lst [])
  have npi : p ≠ it := fun e => by subst e; rw [upd_same] at hit; cases hit
  have hit0 : H it = none := by rw [upd_ne npi.symm] at hit; exact hit
  have s2 := same_of s1 hit (o := ItO l it 0)
  have nlp : l ≠ p := ne_of_none h2 hp
  have nli : l ≠ it := ne_of_none h2 hit0
  refine ⟨l, it, ls, H, _, dx, rfl, rfl, nlp, nli, npi, Nat.le_trans hl (by decide), .inl (.inl h2), s2 _ _ h1, o, l, ls, rfl, hL.same s2, ls.length, rfl, Nat.lt_of_le_of_lt hl (by decide), rfl, fun j e => ?_, ?_⟩
  · have e1 : (ls.length : Int) = (j : Int) := V.int.inj e
    exact Nat.le_trans (show j ≤ 60 by omega) (by decide)
  · have hit2 : upd H p (.lst ls) it = none := by rw [upd_ne npi.symm]; exact hit0
    refine q p _ hp (same_of (same_of (Same.refl _) hp) hit2) ?_
    rw [upd_ne npi, upd_same]
theorem w_logMeth {C o l : Addr} {ls : List V} {m : Str} {sp : Sp} {E : XK} {t : TA} {i : Nat} {σ : L2.St} {H : Hp} {Q : VK} (hL : LogAt C H o l ls) (hσ : σ[i]? = some (some (.ref o))) (hm : ∀ v : V, [(("_steps" : Str), v)].lookup m = none) (q : t σ H fun vs H2 => sp (.ref o :: (vs ++ [])) H2 Q E) : tMeth C m sp [] E (tVar i) t σ H Q := by
  obtain ⟨⟨dx, h1⟩, h2⟩ := id hL
  exact Z.w_var hσ ⟨o, dx, _, rfl, h1, hm _, q⟩
def spKeeps (K : PySem.W.Frag) (C : Addr) : Sp := fun vs H Q _ => ∃ (o l a : Addr) (ls us : List V) (ss : List Stp), vs = [.ref o, .ref a] ∧ LogAt C H o l ls ∧ H a = some (.lst us) ∧ StV K H ls ss ∧ StV K H us ss ∧ AllG ss ∧ ss.length ≤ 60 ∧ ∀ H', Same H H' → Q (.bl true) H'
theorem use_keeps {C o l a : Addr} {ls us : List V} {ss : List Stp} {H : Hp} {Q : VK} {E : XK} (h0 : LogAt C H o l ls) (h1 : H a = some (.lst us)) (h2 : StV K H ls ss) (h3 : StV K H us ss) (h4 : AllG ss) (h5 : ss.length ≤ 60) (h : ∀ H', Same H H' → Q (.bl true) H') : spKeeps K C [.ref o, .ref a] H Q E := ⟨o, l, a, ls, us, ss, rfl, h0, h1, h2, h3, h4, h5, h⟩
def clS : Stp → PyData
  | .oth _ c _ => c
  | .res c _ _ => c
theorem step_three {H : Hp} {v : V} {s : Stp} (h : Dp K H v (toD s)) : ∃ t x y z, v = .ref t ∧ SqT K H t [x, y, z] ∧ Dp K H y (clS s) ∧ (GoodS s → gd (clS s) = true ∧ (clS s).depth ≤ 4) := by
  cases s with
  | oth k c d =>
    obtain ⟨t, x, y, rfl, h1, h2, h3⟩ := step_oth h
    refine ⟨t, _, _, _, rfl, h1, h2, fun hg => ⟨(gd_oth hg).1, ?_⟩⟩
    have := hg.2.1
    simp only [toD, PyData.depth, PyData.depthAll] at this
    show c.depth ≤ 4
    omega
  | res c f sk =>
    obtain ⟨t, x, y, u, ws, rfl, h1, h2, _⟩ := step_res h
    refine ⟨t, _, _, _, rfl, h1, h2, fun hg => ⟨gd_parts hg rfl, ?_⟩⟩
    have := hg.2.1
    simp only [toD, PyData.depth, PyData.depthAll] at this
    show c.depth ≤ 4
    omega
theorem ok_keeps (T : Txt K mg) : FnOk P w K mg base CX0 9 T.f_keeps T.fd_keeps ["_law_log", "_law_steps"] (spKeeps K T.C_Log) := by
  have G_alike := ok_alike (P := P) (w := w) (base := base) T 6
  have G_alike_lists := ok_alikeL (P := P) (w := w) (base := base) T
  have G_Log_len := ok_Log_len (P := P) (w := w) (base := base) T
  have G_Log_iter := ok_Log_iter (P := P) (w := w) (base := base) T
  have G_Log_all_steps := ok_Log_all (P := P) (w := w) (base := base) T
  have G_Log_step := ok_Log_step (P := P) (w := w) (base := base) T
  have G_Log_clause_at := ok_Log_clause_at (P := P) (w := w) (base := base) T
  refine T.F_keeps.ok sc_keeps (fun vs H Q E h => ?_) (fun cdv A outer s H vs Q E hr h => ?_)
  · obtain ⟨o, l, a, ls, us, ss, rfl, _⟩ := h
    rfl
  · obtain ⟨o, l, a, ls, us, ss, rfl, hL, ha, hls, hus, hg, hlen, h⟩ := h
    have hll := hls.len
    have hul := hus.len
    have hL0 := hL
    obtain ⟨⟨dx, hL1⟩, hL2⟩ := hL0
    refine ⟨_, (pss_cons (ps_if (PW.pt (pw_or (pt_cmpR op_ne (pe_callB (OWN.call_lenOwn T.ln_Log G_Log_len T.b_Log_len (hr.mono (by first | decide | omega))) (by rfl) T.m_len (by decide +kernel) (pa_cons (pv 0) pa_nil)) (pe_callB call_len_seq (by rfl) T.m_len (by decide +kernel) (pa_cons (pv 1) pa_nil)) (nomark _)) (pw_or1 (pt_not (pt_val (pe_call G_alike_lists (hr.mono (by first | decide | omega)) (by rfl) T.g_alike_lists T.F_alike_lists.kp T.b_alike_lists .nil pass0 (pa_cons (pe_callTy (OWN.call_listIt T.it_Log G_Log_iter T.b_Log_iter G_Log_len T.b_Log_len (hr.mono (by first | decide | omega)) hr.hd) (by rfl) T.m_list (by decide +kernel) (pa_cons (pv 0) pa_nil)) (pa_cons (pv 1) pa_nil)))))))) (pss_one (ps_ret pe_bl)) pss_nil)
 (pss_cons (ps_set (i := 2) sc_keeps.nd rfl (.inl rfl) (pe_meth0 (pv 0) T.cl_Log T.M_Log_all_steps G_Log_all_steps (hr.mono (by first | decide | omega)) T.b_Log_all_steps .nil pass0))
 (pss_cons (ps_if (pt_not (pt_val (pe_call G_alike_lists (hr.mono (by first | decide | omega)) (by rfl) T.g_alike_lists T.F_alike_lists.kp T.b_alike_lists .nil pass0 (pa_cons (pv 2) (pa_cons (pv 1) pa_nil))))) (pss_one (ps_ret pe_bl)) pss_nil)
 (pss_cons (ps_expr (pe_bm PySem.F.plainAttrs_list PySem.F.slot_list_append PySem.F.type_list_append mt_append (pv 2) (pa_cons (pe_tup (pa_cons pe_str (pa_cons (pe_tup pa_nil) (pa_cons pe_non pa_nil)))) pa_nil)))
 (pss_cons (ps_for PassesOwn.never rfl (pi_range1 (by rfl) T.m_range (pa_cons (pe_callB call_len_seq (by rfl) T.m_len (by decide +kernel) (pa_cons (pv 1) pa_nil)) pa_nil)) (pg_name (i := 3) sc_keeps.nd rfl (.inl rfl)) (pss_one (ps_if (PW.pt (pw_or (pt_not (pt_val (pe_call G_alike (hr.mono (by first | decide | omega)) (by rfl) T.g_alike T.F_alike.kp T.b_alike .nil pass0 (pa_cons (pe_meth (pv 0) T.cl_Log T.M_Log_step G_Log_step (hr.mono (by first | decide | omega)) T.b_Log_step .nil pass0 (pa_cons (pv 3) pa_nil)) (pa_cons (pe_ix ix_list (pv 1) (pv 3) (fun _ _ => rfl)) pa_nil))))) (pw_or1 (pt_not (pt_val (pe_call G_alike (hr.mono (by first | decide | omega)) (by rfl) T.g_alike T.F_alike.kp T.b_alike .nil pass0 (pa_cons (pe_meth (pv 0) T.cl_Log T.M_Log_clause_at G_Log_clause_at (hr.mono (by first | decide | omega)) T.b_Log_clause_at .nil pass0 (pa_cons (pv 3) pa_nil)) (pa_cons (pe_ix ix_tup (pe_ix ix_list (pv 1) (pv 3) (fun _ _ => rfl)) pe_int (fun _ _ => rfl)) pa_nil)))))))) (pss_one (ps_ret pe_bl)) pss_nil)))
 (pss_one (ps_ret (pe_and (pe_cmpR op_eq (pe_callB (OWN.call_lenOwn T.ln_Log G_Log_len T.b_Log_len (hr.mono (by first | decide | omega))) (by rfl) T.m_len (by decide +kernel) (pa_cons (pv 0) pa_nil)) (pe_callB call_len_seq (by rfl) T.m_len (by decide +kernel) (pa_cons (pv 1) pa_nil)) (nomark _)) (pe_one (pe_call G_alike_lists (hr.mono (by first | decide | omega)) (by rfl) T.g_alike_lists T.F_alike_lists.kp T.b_alike_lists .nil pass0 (pa_cons (pe_meth0 (pv 0) T.cl_Log T.M_Log_all_steps G_Log_all_steps (hr.mono (by first | decide | omega)) T.b_Log_all_steps .nil pass0) (pa_cons (pv 1) pa_nil)))))))))))), ?_⟩
    refine Z.w_start (σ' := [some (.ref o), some (.ref a), none, none]) rfl ?_
    walk_at "w"
    have hlL : ls.length ≤ 60 := by omega
    refine w_logLen hL hlL ?_
    walk_at "w"
    refine w_logList hL hlL fun p1 H1 f1 s1 e1 => ?_
    walk_at "w"
    refine use_alikeL e1 (s1 _ _ ha) (hls.tu hg (.ofS s1)) (hus.tu hg (.ofS s1)) hg hlen fun H2 s2 => ?_
    have s12 := s1.trans s2
    walk_at "w"
    have hL2' := hL.same s12
    refine w_logMeth hL2' rfl (fun _ => by rfl) ?_
    refine ⟨o, l, ls, rfl, hL2', fun p3 f3 => ?_⟩
    have s3 := same_of s12 f3 (o := .lst ls)
    walk_at "w"
    refine use_alikeL upd_same (s3 _ _ ha) (hls.tu hg (.ofS s3)) (hus.tu hg (.ofS s3)) hg hlen fun H4 s4 => ?_
    walk_at "w"
    refine w_appG rfl (s4 _ _ upd_same) (by omega) fun H5 v5 b5 _ => ?_
    have s5 := b5.same (s3.trans s4) (fresh_of s12 f3)
    have ha5 := s5 _ _ ha
    walk_at "w"
    have e1 : ((us.length : Int)).toNat = ss.length := by omega
    refine ⟨by omega, by omega, ?_⟩
    rw [e1]
    refine for_range (fun i σ H' => ∃ x3, σ = [some (.ref o), some (.ref a), some (.ref p3), x3] ∧ Same H H' ∧ i ≤ ss.length) ?_ ?_ ?_
    · exact ⟨none, rfl, s5, Nat.zero_le _⟩
    · rintro i σ H' hi ⟨x3, rfl, sm, _⟩
      have e4 : (0 : Int) + (i : Int) = (i : Int) := by omega
      rw [e4]
      have hLm := hL.same sm
      obtain ⟨v1, g1, _, d1⟩ := hls.at hi
      obtain ⟨v2, g2, k2, d2⟩ := hus.at hi
      have hgi := hg _ (List.getElem_mem hi)
      have hSa : SqL K H' a us := .inl (.inl (sm _ _ ha))
      walk_at "w"
      refine w_logMeth hLm rfl (fun _ => by rfl) ?_
      walk_at "w"
      refine ⟨o, l, ls, i, v1, rfl, hLm, g1, ?_⟩
      walk_at "w"
      refine use_alike (dp_tu _ _ hgi.1 d1 (.ofS sm)) (dp_tu _ _ hgi.1 d2 (.ofS sm)) hgi.1 (Nat.le_trans hgi.2.1 (by decide)) fun H6 s6 => ?_
      have sm6 := sm.trans s6
      have hLm6 := hL.same sm6
      obtain ⟨t1, x1, y1, z1, rfl, a1, b1, c1'⟩ := step_three d1
      obtain ⟨t2, x2, y2, z2, rfl, a2, b2, c2'⟩ := step_three d2
      have a2' := sqT_tu a2 (.ofS sm6)
      have hSa6 : SqL K H6 a us := .inl (.inl (sm6 _ _ ha))
      walk_at "w"
      refine w_logMeth hLm6 rfl (fun _ => by rfl) ?_
      walk_at "w"
      refine ⟨o, l, t1, ls, i, x1, y1, z1, rfl, hLm6, g1, sqT_tu a1 (.ofS sm6), ?_⟩
      walk_at "w"
      obtain ⟨q1, q2⟩ := c1' hgi
      refine use_alike (dp_tu _ _ q1 b1 (.ofS sm6)) (dp_tu _ _ q1 b2 (.ofS sm6)) q1 (Nat.le_trans q2 (by decide)) fun H7 s7 => ?_
      walk_at "w"
      exact ⟨sm6.trans s7, hi⟩
    · rintro σ H' ⟨x3, rfl, sm, _⟩
      have hLm := hL.same sm
      walk_at "w"
      refine w_logLen hLm hlL ?_
      have ham := sm _ _ ha
      walk_at "w"
      refine w_logMeth hLm rfl (fun _ => by rfl) ?_
      refine ⟨o, l, ls, rfl, hLm, fun p7 f7 => ?_⟩
      have s7 := same_of sm f7 (o := .lst ls)
      walk_at "w"
      refine use_alikeL upd_same (s7 _ _ ha) (hls.tu hg (.ofS s7)) (hus.tu hg (.ofS s7)) hg hlen fun H8 s8 => ?_
      walk_at "w"
      exact h _ (s7.trans s8)
end
end L

namespace L
open PySem PySem.Spec PyProof.Rows L2 Z M DT MK
section
variable {P : Program} {w : World} {K : PySem.W.Frag} {mg : Str → Option Value} {base : Heap}
def spTakes (K : PySem.W.Frag) (C : Addr) : Sp := fun vs H Q _ => ∃ (o l b a : Addr) (ls ub us : List V) (s0 ss : List Stp), vs = [.ref o, .ref b, .ref a] ∧ LogAt C H o l ls ∧ H b = some (.lst ub) ∧ H a = some (.lst us) ∧ StV K H ls s0 ∧ StV K H ub s0 ∧ StV K H us ss ∧ AllG s0 ∧ AllG ss ∧ b ≠ l ∧ a ≠ l ∧ s0.length + ss.length ≤ 58 ∧
  ∀ zs H', But l H H' → H' l = some (.lst zs) → StV K H' zs (s0 ++ ss.map (mv s0.length)) → Q (.bl true) H'
theorem use_takes {C o l b a : Addr} {ls ub us : List V} {s0 ss : List Stp} {H : Hp} {Q : VK} {E : XK} (h0 : LogAt C H o l ls) (h1 : H b = some (.lst ub)) (h2 : H a = some (.lst us)) (h3 : StV K H ls s0) (h4 : StV K H ub s0) (h5 : StV K H us ss) (h6 : AllG s0) (h7 : AllG ss) (h8 : b ≠ l) (h9 : a ≠ l) (h10 : s0.length + ss.length ≤ 58)
    (h : ∀ zs H', But l H H' → H' l = some (.lst zs) → StV K H' zs (s0 ++ ss.map (mv s0.length)) → Q (.bl true) H') : spTakes K C [.ref o, .ref b, .ref a] H Q E := ⟨o, l, b, a, ls, ub, us, s0, ss, rfl, h0, h1, h2, h3, h4, h5, h6, h7, h8, h9, h10, h⟩
theorem allG_mv {ss : List Stp} (h : AllG ss) (k : Nat) : AllG (ss.map (mv k)) := fun s hs => by
  obtain ⟨y, hy, rfl⟩ := List.mem_map.mp hs
  exact good_ren (h y hy) _
theorem allG_app {a b : List Stp} (h : AllG a) (g : AllG b) : AllG (a ++ b) := fun s hs => by
  rcases List.mem_append.mp hs with z | z
  · exact h s z
  · exact g s z
theorem ok_takes (T : Txt K mg) : FnOk P w K mg base CX0 10 T.f_takes T.fd_takes ["_law_log", "_law_before", "_law_steps"] (spTakes K T.C_Log) := by
  have G_alike_lists := ok_alikeL (P := P) (w := w) (base := base) T
  have G_keeps := ok_keeps (P := P) (w := w) (base := base) T
  have G_whole := ok_whole (P := P) (w := w) (base := base) T
  have G_Lmoved := ok_Lmoved (P := P) (w := w) (base := base) T
  have G_Log_take := ok_Log_take (P := P) (w := w) (base := base) T
  refine T.F_takes.ok sc_takes (fun vs H Q E h => ?_) (fun cdv A outer s H vs Q E hr h => ?_)
  · obtain ⟨o, l, b, a, ls, ub, us, s0, ss, rfl, _⟩ := h
    rfl
  · obtain ⟨o, l, b, a, ls, ub, us, s0, ss, rfl, hL, hb, ha, hls, hub, hus, hg0, hg, nbl, nal, hlen, h⟩ := h
    have hll := hls.len
    have hbl := hub.len
    have hul := hus.len
    have hL2 := hL.2
    refine ⟨_, (pss_cons (ps_set (i := 3) sc_takes.nd rfl (.inl rfl) (pe_callTy call_list_of (by rfl) T.m_list (by decide +kernel) (pa_cons (pv 2) pa_nil)))
 (pss_cons (ps_set (i := 4) sc_takes.nd rfl (.inl rfl) (pe_meth (pv 0) T.cl_Log T.M_Log_take G_Log_take (hr.mono (by first | decide | omega)) T.b_Log_take .nil pass0 (pa_cons (pv 3) pa_nil)))
 (pss_cons (ps_if (pt_not (pt_val (pe_call G_alike_lists (hr.mono (by first | decide | omega)) (by rfl) T.g_alike_lists T.F_alike_lists.kp T.b_alike_lists .nil pass0 (pa_cons (pv 3) (pa_cons (pv 2) pa_nil))))) (pss_one (ps_ret pe_bl)) pss_nil)
 (pss_cons (ps_expr (pe_bm PySem.F.plainAttrs_list PySem.F.slot_list_append PySem.F.type_list_append mt_append (pv 3) (pa_cons (pe_tup (pa_cons pe_str (pa_cons (pe_tup pa_nil) (pa_cons pe_non pa_nil)))) pa_nil)))
 (pss_cons (ps_if (PW.pt (pw_and (pt_cmpR op_eq (pe_callB call_len_seq (by rfl) T.m_len (by decide +kernel) (pa_cons (pv 2) pa_nil)) pe_int (nomark _)) (pw_and1 (pt_cmpR op_notN (pv 4) pe_non (nomark _))))) (pss_one (ps_ret pe_bl)) pss_nil)
 (pss_cons (ps_if (PW.pt (pw_and (pt_cmpR op_gt (pe_callB call_len_seq (by rfl) T.m_len (by decide +kernel) (pa_cons (pv 2) pa_nil)) pe_int (nomark _)) (pw_and1 (PW.pt (pw_or (pt_not (pt_val (pe_call G_whole (hr.mono (by first | decide | omega)) (by rfl) T.g_whole T.F_whole.kp T.b_whole .nil pass0 (pa_cons (pv 4) pa_nil)))) (pw_or1 (pt_cmpR op_ne (pv 4) (pe_op op_sub (pe_op op_add (pe_callB call_len_seq (by rfl) T.m_len (by decide +kernel) (pa_cons (pv 1) pa_nil)) (pe_callB call_len_seq (by rfl) T.m_len (by decide +kernel) (pa_cons (pv 2) pa_nil))) pe_int) (nomark _)))))))) (pss_one (ps_ret pe_bl)) pss_nil)
 (pss_one (ps_ret (pe_call G_keeps (hr.mono (by first | decide | omega)) (by rfl) T.g_keeps T.F_keeps.kp T.b_keeps .nil pass0 (pa_cons (pv 0) (pa_cons (pe_op op_cat (pv 1) (pe_lc (own := [("_law_step_here", 5)]) (g := gName 5) (tt := tYes) (by rfl) sc_takes.nd (pi_list (pv 2)) (blkOk_by (own := [("_law_step_here", 5)]) (N := N_takes) (sc := defScope s_takes) (by decide +kernel)) (fun _ _ _ _ _ => pg_name (i := 5) sc_takes.nd rfl (Or.inl rfl)) (fun _ _ _ _ _ => pts_nil) (fun _ _ _ _ _ => (pe_call G_Lmoved (hr.mono (by first | decide | omega)) (by rfl) T.g_Lmoved T.F_Lmoved.kp T.b_Lmoved .nil pass0 (pa_cons (pv 5) (pa_cons (pe_callB (show CallR _ _ (QC.rLenQ K) from QC.call_lenQ) (by rfl) T.m_len (by decide +kernel) (pa_cons (pv 1) pa_nil)) pa_nil)))))) pa_nil))))))))))), ?_⟩
    refine Z.w_start (σ' := [some (.ref o), some (.ref b), some (.ref a), none, none, none]) rfl ?_
    walk_at "w"
    intro p1 f1
    have s1 := same_of (Same.refl H) f1 (o := .lst us)
    have hL1 := hL.same s1
    walk_at "w"
    refine w_logMeth hL1 rfl (fun _ => by rfl) ?_
    walk_at "w"
    have np1l : p1 ≠ l := fun e => by subst e; rw [hL2] at f1; cases f1
    refine ⟨o, l, p1, ls, us, ss, rfl, hL1, by omega, upd_same, np1l, hus.tu hg (.ofS s1), hg, by omega, fun H2 zs s2 hz => ?_⟩
    have hg1 := allG_mv hg s0.length
    rw [hll] at hz
    have hL2' := (s1.trans s2) _ _ hL2
    have mo : Mo H2 (upd H2 l (.lst (ls ++ zs))) := (Mo.refl _).lst hL2'
    have tu1 : Tu H (upd H2 l (.lst (ls ++ zs))) := (Tu.ofS (s1.trans s2)).trans (Tu.of mo)
    have hzz := hz.tu hg1 (Tu.of mo)
    have nol : o ≠ l := fun e => by
      subst e
      obtain ⟨dx, e1⟩ := hL.1
      rw [e1] at hL2
      cases hL2
    have bL : But l H (upd H2 l (.lst (ls ++ zs))) := fun c x n e => by rw [upd_ne n]; exact (s1.trans s2) _ _ e
    have np1l : p1 ≠ l := fun e => by subst e; rw [hL2] at f1; cases f1
    have hL3 : LogAt T.C_Log (upd H2 l (.lst (ls ++ zs))) o l (ls ++ zs) := by
      obtain ⟨dx, e1⟩ := hL.1
      exact ⟨⟨dx, bL _ _ nol e1⟩, upd_same⟩
    have hp3 : (upd H2 l (.lst (ls ++ zs))) p1 = some (.lst us) := by rw [upd_ne np1l]; exact s2 _ _ upd_same
    have ha3 := bL _ _ nal ha
    have hb3 := bL _ _ nbl hb
    have hSall := (hls.tu hg0 tu1).app hzz
    have hub3 := hub.tu hg0 tu1
    have hus3 := hus.tu hg tu1
    generalize upd H2 l (.lst (ls ++ zs)) = H3 at *
    have hga := allG_app hg0 hg1
    have hla : (s0 ++ ss.map (mv s0.length)).length ≤ 60 := by rw [List.length_append, List.length_map]; omega
    walk_at "w"
    refine use_alikeL hp3 ha3 hus3 hus3 hg (by omega) fun H4 s4 => ?_
    walk_at "w"
    refine w_appG rfl (s4 _ _ hp3) (by omega) fun H5 v5 b5 _ => ?_
    have nap : a ≠ p1 := fun e => by subst e; rw [ha] at f1; cases f1
    have nbp : b ≠ p1 := fun e => by subst e; rw [hb] at f1; cases f1
    have nop : o ≠ p1 := fun e => by
      subst e
      obtain ⟨dx, e1⟩ := hL.1
      rw [e1] at f1
      cases f1
    have nlp : l ≠ p1 := np1l.symm
    have ha5 := b5 _ _ nap (s4 _ _ ha3)
    have hb5 := b5 _ _ nbp (s4 _ _ hb3)
    have tu5 := (Tu.ofS s4).trans (b5.tu (s4 _ _ hp3))
    have hL5 : LogAt T.C_Log H5 o l (ls ++ zs) := by
      obtain ⟨⟨dx, e1⟩, e2⟩ := hL3
      exact ⟨⟨dx, b5 _ _ nop (s4 _ _ e1)⟩, b5 _ _ nlp (s4 _ _ e2)⟩
    have bL5 : But l H H5 := fun c x n e => by
      have e1 := bL c x n e
      exact b5 _ _ (ne_of_none e f1) (s4 _ _ e1)
    have hSall5 := hSall.tu hga tu5
    have hub5 := hub3.tu hg0 tu5
    have hus5 := hus3.tu hg tu5
    by_cases e0 : ss.length = 0
    · rw [if_pos e0]
      walk_at "w"
      refine Z.w_iteNF rfl ?_
      walk_at "w"
      intro D hD
      have nbD : b ≠ D := fun e => by subst e; rw [hb5] at hD; cases hD
      refine lc_list (K := K) (xs := us) (fun j H6 => Same H5 H6 ∧ j ≤ us.length ∧ ∃ ys, H6 D = some (.lst ys) ∧ StV K H6 ys ((ss.take j).map (mv s0.length))) ?_ ?_ ?_ ?_
      · exact ⟨same_of (Same.refl _) hD, Nat.zero_le _, [], upd_same, .nil⟩
      · rintro j H6 hj ⟨s6, _⟩
        exact .inl (.inl (s6 _ _ ha5))
      · rintro j x H6 hx ⟨s6, hjl, ys, e6, hy⟩
        obtain ⟨s, g1, g2⟩ := hus5.get hx
        have hgs := hg _ (List.mem_of_getElem? g1)
        have hjs := (List.getElem?_eq_some_iff.mp g1).1
        refine Z.w_gname (σ' := [some (.ref o), some (.ref b), some (.ref a), some (.ref p1), _, some x]) rfl ⟨rfl, ?_⟩
        walk_at "w"
        refine ⟨b, ub, rfl, .inl (.inl (.inl (s6 _ _ hb5))), ?_⟩
        rw [hbl]
        walk_at "w"
        refine use_moved (dp_tu _ _ hgs.1 g2 (.ofS s6)) hgs fun v H7 s7 hv => ?_
        walk_at "w"
        have e7 := s7 _ _ e6
        have tu : Tu H7 (upd H7 D (.lst (ys ++ [v]))) := Tu.of ((Mo.refl _).lst e7)
        refine ⟨ys, e7, ?_, same_mut (s6.trans s7) hD, (List.getElem?_eq_some_iff.mp hx).1, _, upd_same, ?_⟩
        · rw [hy.len, List.length_map, List.length_take]
          exact Nat.lt_of_le_of_lt (Nat.min_le_left _ _) (Nat.lt_trans (show j < 100 by omega) (by decide))
        · rw [List.take_add_one, g1, List.map_append]
          refine (hy.tu ?_ ((Tu.ofS s7).trans tu)).snoc (dp_tu _ _ (good_ren hgs _).1 hv tu)
          intro s' hs'
          obtain ⟨y, hy, rfl⟩ := List.mem_map.mp hs'
          exact good_ren (hg _ (List.mem_of_mem_take hy)) _
      · rintro H6 ⟨s6, _, ys, e6, hy⟩
        rw [hul, List.take_length] at hy
        have hyl := hy.len
        rw [List.length_map] at hyl
        refine ⟨b, D, ub, ys, rfl, rfl, s6 _ _ hb5, e6, Nat.le_trans (show ub.length + ys.length ≤ 100 by omega) (by decide), fun p8 f8 => ?_⟩
        have s8 := same_of s6 f8 (o := .lst (ub ++ ys))
        walk_at "w"
        refine use_keeps (hL5.same s8) upd_same (hSall5.tu hga (.ofS s8)) ((hub5.tu hg0 (.ofS s8)).app (hy.tu hg1 (.ofS (same_of (Same.refl _) f8)))) hga hla fun H9 s9 => ?_
        have s89 := s8.trans s9
        walk_at "w"
        exact h _ _ (fun c x n e => s89 _ _ (bL5 c x n e)) (s89 _ _ hL5.2) (hSall5.tu hga (.ofS s89))
    · rw [if_neg e0]
      walk_at "w"
      intro D hD
      have nbD : b ≠ D := fun e => by subst e; rw [hb5] at hD; cases hD
      refine lc_list (K := K) (xs := us) (fun j H6 => Same H5 H6 ∧ j ≤ us.length ∧ ∃ ys, H6 D = some (.lst ys) ∧ StV K H6 ys ((ss.take j).map (mv s0.length))) ?_ ?_ ?_ ?_
      · exact ⟨same_of (Same.refl _) hD, Nat.zero_le _, [], upd_same, .nil⟩
      · rintro j H6 hj ⟨s6, _⟩
        exact .inl (.inl (s6 _ _ ha5))
      · rintro j x H6 hx ⟨s6, hjl, ys, e6, hy⟩
        obtain ⟨s, g1, g2⟩ := hus5.get hx
        have hgs := hg _ (List.mem_of_getElem? g1)
        have hjs := (List.getElem?_eq_some_iff.mp g1).1
        refine Z.w_gname (σ' := [some (.ref o), some (.ref b), some (.ref a), some (.ref p1), _, some x]) rfl ⟨rfl, ?_⟩
        walk_at "w"
        refine ⟨b, ub, rfl, .inl (.inl (.inl (s6 _ _ hb5))), ?_⟩
        rw [hbl]
        walk_at "w"
        refine use_moved (dp_tu _ _ hgs.1 g2 (.ofS s6)) hgs fun v H7 s7 hv => ?_
        walk_at "w"
        have e7 := s7 _ _ e6
        have tu : Tu H7 (upd H7 D (.lst (ys ++ [v]))) := Tu.of ((Mo.refl _).lst e7)
        refine ⟨ys, e7, ?_, same_mut (s6.trans s7) hD, (List.getElem?_eq_some_iff.mp hx).1, _, upd_same, ?_⟩
        · rw [hy.len, List.length_map, List.length_take]
          exact Nat.lt_of_le_of_lt (Nat.min_le_left _ _) (Nat.lt_trans (show j < 100 by omega) (by decide))
        · rw [List.take_add_one, g1, List.map_append]
          refine (hy.tu ?_ ((Tu.ofS s7).trans tu)).snoc (dp_tu _ _ (good_ren hgs _).1 hv tu)
          intro s' hs'
          obtain ⟨y, hy, rfl⟩ := List.mem_map.mp hs'
          exact good_ren (hg _ (List.mem_of_mem_take hy)) _
      · rintro H6 ⟨s6, _, ys, e6, hy⟩
        rw [hul, List.take_length] at hy
        have hyl := hy.len
        rw [List.length_map] at hyl
        refine ⟨b, D, ub, ys, rfl, rfl, s6 _ _ hb5, e6, Nat.le_trans (show ub.length + ys.length ≤ 100 by omega) (by decide), fun p8 f8 => ?_⟩
        have s8 := same_of s6 f8 (o := .lst (ub ++ ys))
        walk_at "w"
        refine use_keeps (hL5.same s8) upd_same (hSall5.tu hga (.ofS s8)) ((hub5.tu hg0 (.ofS s8)).app (hy.tu hg1 (.ofS (same_of (Same.refl _) f8)))) hga hla fun H9 s9 => ?_
        have s89 := s8.trans s9
        walk_at "w"
        exact h _ _ (fun c x n e => s89 _ _ (bL5 c x n e)) (s89 _ _ hL5.2) (hSall5.tu hga (.ofS s89))
end
end L

namespace L
open PySem PySem.Spec PyProof.Rows L2 Z M DT MK
section
variable {P : Program} {w : World} {K : PySem.W.Frag} {mg : Str → Option Value} {base : Heap}
theorem w_slice {r : V → Option Int → Option Int → Hp → VK → Prop} {te : TE} {tl th : TO} {σ : L2.St} {H : Hp} {Q : VK} (h : te σ H fun x H1 => tl σ H1 fun l H2 => th σ H2 fun u H3 => r x l u H3 Q) : L2.tSl r te tl th σ H Q := h
theorem w_nopart {σ : L2.St} {H : Hp} {R : Option Int → Hp → Prop} (h : R none H) : tNoPart σ H R := h
theorem w_part {t : TE} {σ : L2.St} {H : Hp} {R : Option Int → Hp → Prop} (h : t σ H fun x H1 => ∃ i, x = .int i ∧ R (some i) H1) : tPart t σ H R := h
theorem w_slTo {a : Addr} {xs : List V} {i : Int} {H : Hp} {Q : VK} (h : SqL K H a xs) (q : ∀ p k, H p = none → Q (.ref p) (upd H p (.lst (xs.take k)))) : rSlL K (.ref a) none (some i) H Q :=
  ⟨a, xs, rfl, h, fun p hp => q p _ hp⟩
theorem w_mkLog {C : Addr} {σ : L2.St} {H : Hp} {Q : VK} (q : ∀ o l H', Same H H' → H o = none → H l = none → o ≠ l → LogAt C H' o l [] → Q (.ref o) H') : tMake C (spInit C) [] E0 tNil σ H Q := by
  show ∀ x dx, H x = none → H dx = none → dx ≠ x → _
  intro x dx hx hdx hne
  refine ⟨x, dx, rfl, upd_same, fun l hl => ⟨rfl, ?_⟩⟩
  have hx1 : upd H dx (.own x) x = none := by rw [upd_ne hne.symm]; exact hx
  have s1 := same_of (same_of (Same.refl H) hdx (o := .own x)) hx1 (o := .ins C dx [])
  have nlx : l ≠ x := fun e => by subst e; rw [upd_same] at hl; cases hl
  refine q x l _ (same_mut (same_of s1 hl) hx) hx (fresh_of s1 hl) nlx.symm ⟨⟨dx, upd_same⟩, ?_⟩
  rw [upd_ne nlx, upd_same]
theorem step_xyz {H : Hp} {v : V} {s : Stp} (h : Dp K H v (toD s)) (hg : GoodS s) : ∃ t x y z, v = .ref t ∧ SqT K H t [x, y, z] ∧ ∀ H' t', Tu H H' → H' t' = some (.tup [x, y, z]) → Dp K H' (.ref t') (toD s) := by
  cases s with
  | oth k c d =>
    obtain ⟨t, x, y, rfl, h1, h2, h3⟩ := step_oth h
    obtain ⟨g1, g2, _⟩ := gd_oth hg
    exact ⟨t, _, _, _, rfl, h1, fun H' t' tu e => .tup (.inl (.inl e)) (.cons (.str _) (.cons (dp_tu c _ g1 h2 tu) (.cons (dp_tu d _ g2 h3 tu) .nil)))⟩
  | res c f sk =>
    obtain ⟨t, x, y, u, ws, rfl, h1, h2, h3, h4, h5⟩ := step_res h
    exact ⟨t, _, _, _, rfl, h1, fun H' t' tu e => .tup (.inl (.inl e)) (.cons (.str _) (.cons (dp_tu c _ (gd_parts hg rfl) h2 tu) (.cons (.tup (sqT_tu h3 tu) (.cons (.int _) (.cons (.tup (sqT_tu h4 tu) (dpAll_tu _ _ (gd_sk _) h5 tu)) .nil))) .nil)))⟩
def spLaw (K : PySem.W.Frag) : Sp := fun vs H Q _ => ∃ (a : Addr) (ns : List Int), vs = [.ref a] ∧ SqL K H a (ns.map V.int) ∧ ns.length ≤ 63 ∧ ∀ H', Q (.bl true) H'
theorem ok_law (T : Txt K mg) : FnOk P w K mg base CX0 11 T.f_law T.fd_law ["_law_script"] (spLaw K) := by
  have G_pool := ok_pool (P := P) (w := w) (base := base) T
  have G_take := ok_take (P := P) (w := w) (base := base) T
  have G_step := ok_step (P := P) (w := w) (base := base) T
  have G_whole := ok_whole (P := P) (w := w) (base := base) T
  have G_due := ok_due (P := P) (w := w) (base := base) T
  have G_Lmoved := ok_Lmoved (P := P) (w := w) (base := base) T
  have G_trims := ok_trims (P := P) (w := w) (base := base) T
  have G_keeps := ok_keeps (P := P) (w := w) (base := base) T
  have G_takes := ok_takes (P := P) (w := w) (base := base) T
  have G_Log_init := ok_Log_init (P := P) (w := w) (base := base) T
  have G_Log_write := ok_Log_write (P := P) (w := w) (base := base) T
  have G_Log_len := ok_Log_len (P := P) (w := w) (base := base) T
  refine T.F_law.ok sc_law (fun vs H Q E h => ?_) (fun cdv A outer s H vs Q E hr h => ?_)
  · obtain ⟨a, ns, rfl, _⟩ := h
    rfl
  · obtain ⟨a, ns, rfl, hS, hn63, h⟩ := h
    have hn : ns.length ≤ 1000 := by omega
    refine ⟨_, (pss_cons (ps_set (i := 1) sc_law.nd rfl (.inl rfl) (pe_call G_pool (hr.mono (by first | decide | omega)) (by rfl) T.g_pool T.F_pool.kp T.b_pool .nil pass0 (pa_cons (pv 0) (pa_cons pe_int pa_nil))))
 (pss_cons (ps_set (i := 2) sc_law.nd rfl (.inr rfl) (pe_lst pa_nil))
 (pss_cons (ps_for PassesOwn.never rfl (pi_range1 (by rfl) T.m_range (pa_cons (pe_call G_take (hr.mono (by first | decide | omega)) (by rfl) T.g_take T.F_take.kp T.b_take .nil pass0 (pa_cons (pv 1) (pa_cons pe_int pa_nil))) pa_nil)) (pg_name (i := 3) sc_law.nd rfl (.inl rfl)) (pss_cons (ps_set (i := 4) sc_law.nd rfl (.inl rfl) (pv 1))
 (pss_cons (ps_if (pt_cmpR op_lt (pe_op op_add (pv 3) pe_int) (pe_callB call_len_seq (by rfl) T.m_len (by decide +kernel) (pa_cons (pv 0) pa_nil)) (nomark _)) (pss_one (ps_set (i := 4) sc_law.nd rfl (.inl rfl) (pe_call G_pool (hr.mono (by first | decide | omega)) (by rfl) T.g_pool T.F_pool.kp T.b_pool .nil pass0 (pa_cons (pv 0) (pa_cons (pe_op op_add (pv 3) pe_int) pa_nil))))) pss_nil)
 (pss_one (ps_expr (pe_bm PySem.F.plainAttrs_list PySem.F.slot_list_append PySem.F.type_list_append mt_append (pv 2) (pa_cons (pe_call G_step (hr.mono (by first | decide | omega)) (by rfl) T.g_step T.F_step.kp T.b_step .nil pass0 (pa_cons (pv 4) (pa_cons (pv 2) pa_nil))) pa_nil)))))))
 (pss_cons (ps_set (i := 5) sc_law.nd rfl (.inl rfl) (pe_slice sl_list (pv 2) po_none (po_some (pe_call G_take (hr.mono (by first | decide | omega)) (by rfl) T.g_take T.F_take.kp T.b_take .nil pass0 (pa_cons (pv 1) (pa_cons (pe_op op_add (pe_callB call_len_seq (by rfl) T.m_len (by decide +kernel) (pa_cons (pv 2) pa_nil)) pe_int) pa_nil))))))
 (pss_cons (ps_if (PW.pt (pw_or (pt_not (pt_val (pe_call G_trims (hr.mono (by first | decide | omega)) (by rfl) T.g_trims T.F_trims.kp T.b_trims .nil pass0 (pa_cons (pv 2) pa_nil)))) (pw_or1 (pt_not (pt_val (pe_call G_trims (hr.mono (by first | decide | omega)) (by rfl) T.g_trims T.F_trims.kp T.b_trims .nil pass0 (pa_cons (pv 5) pa_nil))))))) (pss_one (ps_ret pe_bl)) pss_nil)
 (pss_cons (ps_set (i := 6) sc_law.nd rfl (.inl rfl) (pe_make0 T.mk_Log G_Log_init (hr.mono (by first | decide | omega)) (by rfl) T.c_Log T.b_Log_init .nil pass0))
 (pss_cons (ps_set (i := 7) sc_law.nd rfl (.inl rfl) (pe_make0 T.mk_Log G_Log_init (hr.mono (by first | decide | omega)) (by rfl) T.c_Log T.b_Log_init .nil pass0))
 (pss_cons (ps_for PassesOwn.never rfl (pi_range1 (by rfl) T.m_range (pa_cons (pe_callB call_len_seq (by rfl) T.m_len (by decide +kernel) (pa_cons (pv 2) pa_nil)) pa_nil)) (pg_name (i := 3) sc_law.nd rfl (.inl rfl)) (pss_cons (ps_set (i := 8) sc_law.nd rfl (.inl rfl) (pe_meth (pv 6) T.cl_Log T.M_Log_write G_Log_write (hr.mono (by first | decide | omega)) T.b_Log_write .nil pass0 (pa_cons (pe_ix ix_tup (pe_ix ix_list (pv 2) (pv 3) (fun _ _ => rfl)) pe_int (fun _ _ => rfl)) (pa_cons (pe_ix ix_tup (pe_ix ix_list (pv 2) (pv 3) (fun _ _ => rfl)) pe_int (fun _ _ => rfl)) (pa_cons (pe_ix ix_tup (pe_ix ix_list (pv 2) (pv 3) (fun _ _ => rfl)) pe_int (fun _ _ => rfl)) pa_nil)))))
 (pss_one (ps_if (PW.pt (pw_or (pt_not (pt_val (pe_call G_whole (hr.mono (by first | decide | omega)) (by rfl) T.g_whole T.F_whole.kp T.b_whole .nil pass0 (pa_cons (pv 8) pa_nil)))) (pw_or (pt_cmpR op_ne (pv 8) (pv 3) (nomark _)) (pw_or1 (pt_cmpR op_ne (pe_callB (OWN.call_lenOwn T.ln_Log G_Log_len T.b_Log_len (hr.mono (by first | decide | omega))) (by rfl) T.m_len (by decide +kernel) (pa_cons (pv 6) pa_nil)) (pe_op op_add (pv 3) pe_int) (nomark _)))))) (pss_one (ps_ret pe_bl)) pss_nil))))
 (pss_cons (ps_if (PW.pt (pw_or (pt_not (pt_val (pe_call G_keeps (hr.mono (by first | decide | omega)) (by rfl) T.g_keeps T.F_keeps.kp T.b_keeps .nil pass0 (pa_cons (pv 6) (pa_cons (pv 2) pa_nil))))) (pw_or1 (pt_not (pt_val (pe_call G_keeps (hr.mono (by first | decide | omega)) (by rfl) T.g_keeps T.F_keeps.kp T.b_keeps .nil pass0 (pa_cons (pv 7) (pa_cons (pe_lst pa_nil) pa_nil)))))))) (pss_one (ps_ret pe_bl)) pss_nil)
 (pss_cons (ps_set (i := 9) sc_law.nd rfl (.inl rfl) (pe_call G_due (hr.mono (by first | decide | omega)) (by rfl) T.g_due T.F_due.kp T.b_due .nil pass0 (pa_cons (pv 5) pa_nil)))
 (pss_cons (ps_if (PW.pt (pw_or (pt_not (pt_val (pe_call G_takes (hr.mono (by first | decide | omega)) (by rfl) T.g_takes T.F_takes.kp T.b_takes .nil pass0 (pa_cons (pv 7) (pa_cons (pe_lst pa_nil) (pa_cons (pv 9) pa_nil)))))) (pw_or (pt_not (pt_val (pe_call G_takes (hr.mono (by first | decide | omega)) (by rfl) T.g_takes T.F_takes.kp T.b_takes .nil pass0 (pa_cons (pv 6) (pa_cons (pv 2) (pa_cons (pv 9) pa_nil)))))) (pw_or1 (pt_not (pt_val (pe_call G_takes (hr.mono (by first | decide | omega)) (by rfl) T.g_takes T.F_takes.kp T.b_takes .nil pass0 (pa_cons (pv 7) (pa_cons (pv 9) (pa_cons (pv 2) pa_nil)))))))))) (pss_one (ps_ret pe_bl)) pss_nil)
 (pss_one (ps_ret (pe_call G_trims (hr.mono (by first | decide | omega)) (by rfl) T.g_trims T.F_trims.kp T.b_trims .nil pass0 (pa_cons (pe_op op_cat (pv 2) (pe_lc (own := [("_law_step_here", 10)]) (g := gName 10) (tt := tYes) (by rfl) sc_law.nd (pi_list (pv 9)) (blkOk_by (own := [("_law_step_here", 10)]) (N := N_law) (sc := defScope s_law) (by decide +kernel)) (fun _ _ _ _ _ => pg_name (i := 10) sc_law.nd rfl (Or.inl rfl)) (fun _ _ _ _ _ => pts_nil) (fun _ _ _ _ _ => (pe_call G_Lmoved (hr.mono (by first | decide | omega)) (by rfl) T.g_Lmoved T.F_Lmoved.kp T.b_Lmoved .nil pass0 (pa_cons (pv 10) (pa_cons (pe_callB (show CallR _ _ (QC.rLenQ K) from QC.call_lenQ) (by rfl) T.m_len (by decide +kernel) (pa_cons (pv 2) pa_nil)) pa_nil)))))) pa_nil))))))))))))))), ?_⟩
    refine Z.w_start (σ' := [some (.ref a), none, none, none, none, none, none, none, none, none, none]) rfl ?_
    walk_at "w"
    refine ⟨a, ns, 0, rfl, hS, hn, by decide, by decide, fun q o fq hpo => ?_⟩
    have p0 : PoolAt (upd H q o) q := ⟨o, upd_same, hpo⟩
    have sq := same_of (Same.refl H) fq (o := o)
    walk_at "w"
    rename_i L fL
    have fL0 := fresh_of sq fL
    have nLq : L ≠ q := fun e => by subst e; rw [upd_same] at fL; cases fL
    have p1 : PoolAt (upd (upd H q o) L (.lst [])) q := p0.same (same_of (Same.refl _) fL)
    refine use_takeP p1 (by decide) (by decide) fun n H1 px1 n0 n1 => ?_
    have s1 : Same H H1 := fun b x e => px1.3 _ _ (ne_of_none e fq) (same_of sq fL _ _ e)
    have eL1 := px1.3 _ _ nLq (upd_same (H := upd H q o) (a := L) (o := .lst []))
    walk_at "w"
    refine ⟨by omega, by omega, ?_⟩
    refine for_range (fun i σ H' => ∃ x3 x4 us ss, σ = [some (.ref a), some (.ref q), some (.ref L), x3, x4, none, none, none, none, none, none] ∧ Same H H' ∧ PoolAt H' q ∧ H' L = some (.lst us) ∧ StV K H' us ss ∧ AllG ss ∧ Ok ss ∧ ss.length = i ∧ i ≤ n.toNat) ?_ ?_ ?_
    · exact ⟨none, none, [], [], rfl, s1, px1.2, eL1, .nil, fun s hs => by simp at hs, ok_nil, rfl, Nat.zero_le _⟩
    · rintro i σ H' hi ⟨x3, x4, us, ss, rfl, sm, hp, hL, hst, hg, hok, hl, _⟩
      have hSm : SqL K H' a (ns.map V.int) := Evl.ex_l sm hS
      repeat' (first | with_reducible refine seqIf (fun σ' H2 => ∃ m, σ' = [some (.ref a), some (.ref q), some (.ref L), some (.int (0 + (i : Int))), some (.ref m), none, none, none, none, none, none] ∧ H m = none ∧ L ≠ m ∧ Same H H2 ∧ PoolAt H2 q ∧ PoolAt H2 m ∧ H2 L = some (.lst us) ∧ StV K H2 us ss) (fun R kk => ?_) ?_ | walk_at "w1")
      · walk_at "w"
        walk_at "wi"
        · walk_at "w"
          refine ⟨a, ns, _, rfl, hSm, hn, by omega, by omega, fun m o2 fm hpo2 => ?_⟩
          have nLm : L ≠ m := fun e => by subst e; rw [hL] at fm; cases fm
          have s2 := same_of (Same.refl H') fm (o := o2)
          walk_at "w"
          exact kk _ _ ⟨m, rfl, fresh_of sm fm, nLm, sm.trans s2, hp.same s2, ⟨o2, upd_same, hpo2⟩, s2 _ _ hL, hst.tu hg (.ofS s2)⟩
        · walk_at "w"
          exact kk _ _ ⟨q, rfl, fq, nLq, sm, hp, hp, hL, hst⟩
      · rintro σ' H2 ⟨m, rfl, fm, nLm, s2, hp2, hpm, hL2, hst2⟩
        walk_at "w"
        refine Z.w_bm ?_
        walk_at "w"
        refine ⟨.inl ⟨rfl, _, .inl (.inl hL2)⟩, ?_⟩
        walk_at "w"
        refine use_step hpm nLm hL2 hst2 hg hok (by omega) fun v s H3 p3 hv hgs huse => ?_
        have hL3 := p3.3 _ _ nLm hL2
        have hsl := hst2.len
        walk_at "w"
        refine ⟨L, us, v, rfl, rfl, hL3, Nat.lt_trans (show us.length < 100 by omega) (by decide), ?_⟩
        have s3 : Same H H3 := fun b x e => p3.3 _ _ (ne_of_none e fm) (s2 _ _ e)
        have hp3 : PoolAt H3 q := by
          by_cases e : q = m
          · rw [e]
            exact p3.2
          · obtain ⟨o', h1, h2⟩ := hp2
            exact ⟨o', p3.3 _ _ e h1, h2⟩
        have tu : Tu H3 (upd H3 L (.lst (us ++ [v]))) := Tu.of ((Mo.refl _).lst hL3)
        have hp4 : PoolAt (upd H3 L (.lst (us ++ [v]))) q := by
          obtain ⟨o', h1, h2⟩ := hp3
          exact ⟨o', by rw [upd_ne nLq.symm]; exact h1, h2⟩
        walk_at "w"
        refine ⟨_, _, us ++ [v], ss ++ [s], rfl, same_mut s3 fL0, hp4, upd_same, (hst2.tu hg ((Tu.of p3.1).trans tu)).snoc (dp_tu _ _ hgs.1 hv tu), ?_, ok_snoc hok huse, by rw [List.length_append, hl]; rfl, hi⟩
        refine allG_app hg fun y hy => ?_
        rw [List.mem_singleton.mp hy]
        exact hgs
    · rintro σ H' ⟨x3, x4, us, ss, rfl, sm, hp, hL, hst, hg, hok, hl, _⟩
      have hul := hst.len
      have hsn : ss.length ≤ 14 := by omega
      walk_at "w"
      refine w_slice ?_
      refine Z.w_var (v := .ref L) rfl ?_
      refine w_nopart (w_part ?_)
      walk_at "w"
      rename_i r H2 p2 r0 r1
      have hL2 := p2.3 _ _ nLq hL
      have hst2 := hst.tu hg (Tu.of p2.1)
      refine w_slTo (.inl (.inl hL2)) fun M k fM => ?_
      have s3 := same_of (Same.refl H2) fM (o := .lst (us.take k))
      have nLM : L ≠ M := ne_of_none hL2 fM
      have hL3 := s3 _ _ hL2
      have hM3 : upd H2 M (.lst (us.take k)) M = some (.lst (us.take k)) := upd_same
      have hst3 := hst2.tu hg (.ofS s3)
      have hgt : AllG (ss.take k) := fun s hs => hg s (List.mem_of_mem_take hs)
      have hot := MK.ok_take hok k
      have hlt : (ss.take k).length ≤ 14 := by rw [List.length_take]; omega
      have hmt3 := hst3.take k
      generalize upd H2 M (.lst (us.take k)) = H3 at *
      generalize us.take k = ms at *
      generalize ss.take k = tt at *
      walk_at "w"
      refine use_trims hL3 hst3 hg hok (by omega) fun H4 s4 => ?_
      walk_at "w"
      refine use_trims (s4 _ _ hM3) (hmt3.tu hgt (.ofS s4)) hgt hot (by omega) fun H5 s5 => ?_
      have s35 := s4.trans s5
      walk_at "w"
      refine w_mkLog fun o1 l1 H6 s6 fo1 fl1 no1 hA => ?_
      walk_at "w"
      refine w_mkLog fun o2 l2 H7 s7 fo2 fl2 no2 hB => ?_
      have s57 := s6.trans s7
      have s37 := s35.trans s57
      have hL7 := s37 _ _ hL3
      have hM7 := s37 _ _ hM3
      have hst7 := hst3.tu hg (.ofS s37)
      have hmt7 := hmt3.tu hgt (.ofS s37)
      have hA7 := hA.same s7
      have nLl1 : L ≠ l1 := ne_of_none (s35 _ _ hL3) fl1
      have nMl1 : M ≠ l1 := ne_of_none (s35 _ _ hM3) fl1
      have nLl2 : L ≠ l2 := ne_of_none (s6 _ _ (s35 _ _ hL3)) fl2
      have nMl2 : M ≠ l2 := ne_of_none (s6 _ _ (s35 _ _ hM3)) fl2
      have no2l1 : o2 ≠ l1 := fun e => by subst e; rw [hA.2] at fo2; cases fo2
      have nl2l1 : l2 ≠ l1 := fun e => by subst e; rw [hA.2] at fl2; cases fl2
      have no1l2 : o1 ≠ l2 := by
        obtain ⟨⟨dx, e1⟩, _⟩ := hA
        exact ne_of_none e1 fl2
      walk_at "w"
      refine ⟨by omega, by omega, ?_⟩
      have e1 : ((us.length : Int)).toNat = ss.length := by omega
      rw [e1]
      refine for_range (fun i σ H' => ∃ x3 x8 ls, σ = [some (.ref a), some (.ref q), some (.ref L), x3, x4, some (.ref M), some (.ref o1), some (.ref o2), x8, none, none] ∧ But l1 H7 H' ∧ LogAt T.C_Log H' o1 l1 ls ∧ StV K H' ls (ss.take i) ∧ i ≤ ss.length) ?_ ?_ ?_
      · exact ⟨x3, none, [], rfl, fun b x _ e => e, hA7, .nil, Nat.zero_le _⟩
      · rintro i σ H' hi ⟨x3, x8, ls, rfl, bt, hLg, hls, _⟩
        have hll := hls.len
        rw [List.length_take] at hll
        have e4 : (0 : Int) + (i : Int) = (i : Int) := by omega
        rw [e4]
        obtain ⟨v, g1, k1, d1⟩ := hst7.at hi
        have hgi := hg _ (List.getElem_mem hi)
        obtain ⟨t, x, y, z, rfl, hT, hmk⟩ := step_xyz d1 hgi
        have tu7 : Tu H7 H' := bt.tu hA7.2
        have hSL : SqL K H' L us := .inl (.inl (bt _ _ nLl1 hL7))
        have hT' := sqT_tu hT tu7
        walk_at "w"
        refine w_logMeth hLg rfl (fun _ => by rfl) ?_
        walk_at "w"
        refine ⟨o1, l1, ls, x, y, z, rfl, hLg, by omega, fun t2 ft2 => ?_⟩
        have s8 := same_of (Same.refl H') ft2 (o := .tup [x, y, z])
        have el := s8 _ _ hLg.2
        have mo8 : Mo (upd H' t2 (.tup [x, y, z])) (upd (upd H' t2 (.tup [x, y, z])) l1 (.lst (ls ++ [.ref t2]))) := (Mo.refl _).lst el
        have tu8 := (Tu.ofS s8).trans (Tu.of mo8)
        have nt : t2 ≠ l1 := fun e => by subst e; rw [hLg.2] at ft2; cases ft2
        have et : (upd (upd H' t2 (.tup [x, y, z])) l1 (.lst (ls ++ [.ref t2]))) t2 = some (.tup [x, y, z]) := by rw [upd_ne nt, upd_same]
        have dt := hmk _ t2 (tu7.trans tu8) et
        have hgl : AllG (ss.take i) := fun s hs => hg s (List.mem_of_mem_take hs)
        have hls8 := (hls.tu hgl tu8).snoc dt
        have e5 : ss.take i ++ [ss[i]] = ss.take (i + 1) := by rw [List.take_add_one, List.getElem?_eq_getElem hi]; rfl
        rw [e5] at hls8
        have hLg8 : LogAt T.C_Log (upd (upd H' t2 (.tup [x, y, z])) l1 (.lst (ls ++ [.ref t2]))) o1 l1 (ls ++ [.ref t2]) := by
          obtain ⟨⟨dx, e1⟩, _⟩ := hLg
          exact ⟨⟨dx, by rw [upd_ne no1]; exact s8 _ _ e1⟩, upd_same⟩
        have bt8 : But l1 H7 (upd (upd H' t2 (.tup [x, y, z])) l1 (.lst (ls ++ [.ref t2]))) := fun b x n e => by rw [upd_ne n]; exact s8 _ _ (bt b x n e)
        have hl8 : (ls ++ [V.ref t2]).length = i + 1 := by rw [List.length_append, hll, List.length_singleton]; omega
        generalize upd (upd H' t2 (.tup [x, y, z])) l1 (.lst (ls ++ [.ref t2])) = H8 at *
        have hl9 : (ls.length : Int) = (i : Int) := by omega
        rw [hl9]
        walk_at "w"
        refine w_logLen hLg8 (by omega) ?_
        rw [hl8]
        walk_at "w"
        exact ⟨_, _, _, rfl, bt8, hLg8, hls8, hi⟩
      · rintro σ H' ⟨x3, x8, ls, rfl, bt, hLg, hls, _⟩
        rw [List.take_length] at hls
        have hB' : LogAt T.C_Log H' o2 l2 [] := by
          obtain ⟨⟨dx, e1⟩, e2⟩ := hB
          exact ⟨⟨dx, bt _ _ no2l1 e1⟩, bt _ _ nl2l1 e2⟩
        have hL8 := bt _ _ nLl1 hL7
        have hM8 := bt _ _ nMl1 hM7
        have tu7 : Tu H7 H' := bt.tu hA7.2
        have hst8 := hst7.tu hg tu7
        have hmt8 := hmt7.tu hgt tu7
        walk_at "w"
        refine use_keeps hLg hL8 hls hst8 hg (by omega) fun H9 s9 => ?_
        walk_at "w"
        rename_i E1 fE1
        have s10 := same_of s9 fE1 (o := .lst [])
        have hgn : AllG [] := fun s hs => by cases hs
        refine use_keeps (ss := []) (hB'.same s10) upd_same .nil .nil hgn (Nat.zero_le _) fun H11 s11 => ?_
        have s81 := s10.trans s11
        walk_at "w"
        refine use_due (s81 _ _ hM8) (hmt8.tu hgt (.ofS s81)) hgt hot (by omega) fun D wd nd H12 fD s12 eD hkd hdt => ?_
        have s82 := s81.trans s12
        have hgd := allG_trim hgt hot hkd
        have hod := trim_ok hot hkd
        have hld : (trimL tt nd).length ≤ 14 := by rw [trimL_len]; exact Nat.le_trans (kl_len hot hkd) hlt
        generalize trimL tt nd = dd at *
        walk_at "w"
        rename_i E2 fE2
        have s13' := same_of (Same.refl H12) fE2 (o := .lst [])
        have s13 := s82.trans s13'
        have hL13 := s13 _ _ hL8
        have hD13 := s13' _ _ eD
        have hB13 := hB'.same s13
        have hA13 := hLg.same s13
        have hls13 := hls.tu hg (.ofS s13)
        have hst13 := hst8.tu hg (.ofS s13)
        have hdd13 := hdt.tu hgd (.ofS s13')
        have hE13 : upd H12 E2 (.lst []) E2 = some (.lst []) := upd_same
        have nE2 : E2 ≠ l2 := fun e => by subst e; rw [s82 _ _ hB'.2] at fE2; cases fE2
        have nDl2 : D ≠ l2 := fun e => by subst e; rw [s81 _ _ hB'.2] at fD; cases fD
        have nDl1 : D ≠ l1 := fun e => by subst e; rw [s81 _ _ hLg.2] at fD; cases fD
        generalize upd H12 E2 (.lst []) = H13 at *
        refine use_takes (s0 := []) (ss := dd) hB13 hE13 hD13 .nil .nil hdd13 hgn hgd nE2 nDl2 (by rw [List.length_nil]; omega) fun z2 H14 b14 e14 t14 => ?_
        have hmz : ([] : List Stp) ++ dd.map (mv ([] : List Stp).length) = dd := by
          rw [List.nil_append]
          show dd.map (mv 0) = dd
          conv => rhs; rw [← List.map_id dd]
          exact List.map_congr_left fun s _ => ren_id fun u _ => Nat.add_zero u
        rw [hmz] at t14
        have tu14 := b14.tu hB13.2
        have hB14 : LogAt T.C_Log H14 o2 l2 z2 := by
          obtain ⟨⟨dx, e1⟩, _⟩ := hB13
          exact ⟨⟨dx, b14 _ _ no2 e1⟩, e14⟩
        have hA14 : LogAt T.C_Log H14 o1 l1 ls := by
          obtain ⟨⟨dx, e1⟩, e2⟩ := hA13
          exact ⟨⟨dx, b14 _ _ no1l2 e1⟩, b14 _ _ nl2l1.symm e2⟩
        have hL14 := b14 _ _ nLl2 hL13
        have hD14 := b14 _ _ nDl2 hD13
        walk_at "w"
        refine use_takes hA14 hL14 hD14 (hls13.tu hg tu14) (hst13.tu hg tu14) (hdd13.tu hgd tu14) hg hgd nLl1 nDl1 (by omega) fun z1 H15 b15 e15 t15 => ?_
        have tu15 := b15.tu hA14.2
        have tu135 := tu14.trans tu15
        have hB15 : LogAt T.C_Log H15 o2 l2 z2 := by
          obtain ⟨⟨dx, e1⟩, e2⟩ := hB14
          exact ⟨⟨dx, b15 _ _ no2l1 e1⟩, b15 _ _ nl2l1 e2⟩
        have hL15 := b15 _ _ nLl1 hL14
        have hD15 := b15 _ _ nDl1 hD14
        walk_at "w"
        refine use_takes hB15 hD15 hL15 (t14.tu hgd tu15) (hdd13.tu hgd tu135) (hst13.tu hg tu135) hgd hg nDl2 nLl2 (by omega) fun z3 H16 b16 e16 t16 => ?_
        have tu16 := tu135.trans (b16.tu hB15.2)
        have hL16 := b16 _ _ nLl2 hL15
        have hD16 := b16 _ _ nDl2 hD15
        have hst16 := hst13.tu hg tu16
        have hdd16 := hdd13.tu hgd tu16
        have hdl := hdd16.len
        walk_at "w"
        intro F hF
        have hg1 := allG_mv hgd ss.length
        refine lc_list (K := K) (xs := wd) (fun j H6 => Same H16 H6 ∧ j ≤ wd.length ∧ ∃ ys, H6 F = some (.lst ys) ∧ StV K H6 ys ((dd.take j).map (mv ss.length))) ?_ ?_ ?_ ?_
        · exact ⟨same_of (Same.refl _) hF, Nat.zero_le _, [], upd_same, .nil⟩
        · rintro j H6 hj ⟨s6, _⟩
          exact .inl (.inl (s6 _ _ hD16))
        · rintro j x H6 hx ⟨s6, hjl, ys, e6, hy⟩
          obtain ⟨s, g1, g2⟩ := hdd16.get hx
          have hgs := hgd _ (List.mem_of_getElem? g1)
          have hjs := (List.getElem?_eq_some_iff.mp g1).1
          refine Z.w_gname (σ' := [some (.ref a), some (.ref q), some (.ref L), x3, x4, some (.ref M), some (.ref o1), some (.ref o2), x8, some (.ref D), some x]) ?_ ⟨rfl, ?_⟩
          · rfl
          walk_at "w"
          refine ⟨L, us, rfl, .inl (.inl (.inl (s6 _ _ hL16))), ?_⟩
          rw [hul]
          walk_at "w"
          refine use_moved (dp_tu _ _ hgs.1 g2 (.ofS s6)) hgs fun v H7 s7 hv => ?_
          walk_at "w"
          have e7 := s7 _ _ e6
          have tu : Tu H7 (upd H7 F (.lst (ys ++ [v]))) := Tu.of ((Mo.refl _).lst e7)
          refine ⟨ys, e7, ?_, same_mut (s6.trans s7) hF, (List.getElem?_eq_some_iff.mp hx).1, _, upd_same, ?_⟩
          · rw [hy.len, List.length_map, List.length_take]
            exact Nat.lt_of_le_of_lt (Nat.min_le_left _ _) (Nat.lt_trans (show j < 100 by omega) (by decide))
          · rw [List.take_add_one, g1, List.map_append]
            refine (hy.tu ?_ ((Tu.ofS s7).trans tu)).snoc (dp_tu _ _ (good_ren hgs _).1 hv tu)
            intro s' hs'
            obtain ⟨y, hy, rfl⟩ := List.mem_map.mp hs'
            exact good_ren (hgd _ (List.mem_of_mem_take hy)) _
        · rintro H6 ⟨s6, _, ys, e6, hy⟩
          rw [hdl, List.take_length] at hy
          have hyl := hy.len
          rw [List.length_map] at hyl
          refine ⟨L, F, us, ys, rfl, rfl, s6 _ _ hL16, e6, Nat.le_trans (show us.length + ys.length ≤ 100 by omega) (by decide), fun p8 f8 => ?_⟩
          have s8 := same_of s6 f8 (o := .lst (us ++ ys))
          walk_at "w"
          refine use_trims upd_same ((hst16.tu hg (.ofS s8)).app (hy.tu hg1 (.ofS (same_of (Same.refl _) f8)))) (allG_app hg hg1) (ok_app hok hod) (by rw [List.length_append, List.length_map]; omega) fun H9 s9 => ?_
          walk_at "w"
          exact h _
end
end L

namespace X0
end X0
namespace L
open PySem PySem.Spec PyProof.Rows L2 Z X0
theorem all_mk {l : PySem.W.OpenLaw} {w : World} {K : PySem.W.Frag} {h : Heap} {mg : Str → Option Value} {fa : Addr} (X : K.In h) (G : h.Ns mainGlobals mg) (hfa : mg "law" = some (.ref fa))
    {f_trim : Addr} {od_trim an_trim : Option Addr} {sl_trim : Array (Option Value)} {oc_trim kV_trim dc_trim pm_trim cd_trim ct_trim  : Value}
    {f_used_numbers : Addr} {od_used_numbers an_used_numbers : Option Addr} {sl_used_numbers : Array (Option Value)} {oc_used_numbers kV_used_numbers dc_used_numbers pm_used_numbers cd_used_numbers ct_used_numbers  : Value}
    {f_renumbered : Addr} {od_renumbered an_renumbered : Option Addr} {sl_renumbered : Array (Option Value)} {oc_renumbered kV_renumbered dc_renumbered pm_renumbered cd_renumbered ct_renumbered  : Value}
    {f_moved : Addr} {od_moved an_moved : Option Addr} {sl_moved : Array (Option Value)} {oc_moved kV_moved dc_moved pm_moved cd_moved ct_moved  : Value}
    {f_pool : Addr} {od_pool an_pool : Option Addr} {sl_pool : Array (Option Value)} {oc_pool kV_pool dc_pool pm_pool cd_pool ct_pool  : Value}
    {f_take : Addr} {od_take an_take : Option Addr} {sl_take : Array (Option Value)} {oc_take kV_take dc_take pm_take cd_take ct_take  : Value}
    {f_whole : Addr} {od_whole an_whole : Option Addr} {sl_whole : Array (Option Value)} {oc_whole kV_whole dc_whole pm_whole cd_whole ct_whole  : Value}
    {f_alike : Addr} {od_alike an_alike : Option Addr} {sl_alike : Array (Option Value)} {oc_alike kV_alike dc_alike pm_alike cd_alike ct_alike  : Value}
    {f_alike_lists : Addr} {od_alike_lists an_alike_lists : Option Addr} {sl_alike_lists : Array (Option Value)} {oc_alike_lists kV_alike_lists dc_alike_lists pm_alike_lists cd_alike_lists ct_alike_lists  : Value}
    {f_literal : Addr} {od_literal an_literal : Option Addr} {sl_literal : Array (Option Value)} {oc_literal kV_literal dc_literal pm_literal cd_literal ct_literal  : Value}
    {f_literals : Addr} {od_literals an_literals : Option Addr} {sl_literals : Array (Option Value)} {oc_literals kV_literals dc_literals pm_literals cd_literals ct_literals  : Value}
    {f_step : Addr} {od_step an_step : Option Addr} {sl_step : Array (Option Value)} {oc_step kV_step dc_step pm_step cd_step ct_step  : Value}
    {f_due : Addr} {od_due an_due : Option Addr} {sl_due : Array (Option Value)} {oc_due kV_due dc_due pm_due cd_due ct_due  : Value}
    {f_Lmoved : Addr} {od_Lmoved an_Lmoved : Option Addr} {sl_Lmoved : Array (Option Value)} {oc_Lmoved kV_Lmoved dc_Lmoved pm_Lmoved cd_Lmoved ct_Lmoved  : Value}
    {f_trims : Addr} {od_trims an_trims : Option Addr} {sl_trims : Array (Option Value)} {oc_trims kV_trims dc_trims pm_trims cd_trims ct_trims  : Value}
    {f_keeps : Addr} {od_keeps an_keeps : Option Addr} {sl_keeps : Array (Option Value)} {oc_keeps kV_keeps dc_keeps pm_keeps cd_keeps ct_keeps  : Value}
    {f_takes : Addr} {od_takes an_takes : Option Addr} {sl_takes : Array (Option Value)} {oc_takes kV_takes dc_takes pm_takes cd_takes ct_takes  : Value}
    {f_law : Addr} {od_law an_law : Option Addr} {sl_law : Array (Option Value)} {oc_law kV_law dc_law pm_law cd_law ct_law  : Value}
    {C_Log : Addr}
    {f_Log_init : Addr} {od_Log_init an_Log_init : Option Addr} {sl_Log_init : Array (Option Value)} {oc_Log_init kV_Log_init dc_Log_init pm_Log_init cd_Log_init ct_Log_init : Value}
    {f_Log_write : Addr} {od_Log_write an_Log_write : Option Addr} {sl_Log_write : Array (Option Value)} {oc_Log_write kV_Log_write dc_Log_write pm_Log_write cd_Log_write ct_Log_write : Value}
    {f_Log_take : Addr} {od_Log_take an_Log_take : Option Addr} {sl_Log_take : Array (Option Value)} {oc_Log_take kV_Log_take dc_Log_take pm_Log_take cd_Log_take ct_Log_take : Value}
    {f_Log_step : Addr} {od_Log_step an_Log_step : Option Addr} {sl_Log_step : Array (Option Value)} {oc_Log_step kV_Log_step dc_Log_step pm_Log_step cd_Log_step ct_Log_step : Value}
    {f_Log_clause_at : Addr} {od_Log_clause_at an_Log_clause_at : Option Addr} {sl_Log_clause_at : Array (Option Value)} {oc_Log_clause_at kV_Log_clause_at dc_Log_clause_at pm_Log_clause_at cd_Log_clause_at ct_Log_clause_at : Value}
    {f_Log_all_steps : Addr} {od_Log_all_steps an_Log_all_steps : Option Addr} {sl_Log_all_steps : Array (Option Value)} {oc_Log_all_steps kV_Log_all_steps dc_Log_all_steps pm_Log_all_steps cd_Log_all_steps ct_Log_all_steps : Value}
    {f_Log_len : Addr} {od_Log_len an_Log_len : Option Addr} {sl_Log_len : Array (Option Value)} {oc_Log_len kV_Log_len dc_Log_len pm_Log_len cd_Log_len ct_Log_len : Value}
    {f_Log_iter : Addr} {od_Log_iter an_Log_iter : Option Addr} {sl_Log_iter : Array (Option Value)} {oc_Log_iter kV_Log_iter dc_Log_iter pm_Log_iter cd_Log_iter ct_Log_iter : Value}
    (a_trim : PySem.W.nsIn K mainGlobals "trim" = some (some (.ref f_trim)))
    (l_trim : K.lookup f_trim = some ⟨oc_trim, od_trim, .func (PySem.W.fnOf "trim" "trim" (defArgs s_trim) (defBody s_trim) (defScope s_trim) .none kV_trim dc_trim pm_trim an_trim cd_trim ct_trim), sl_trim⟩)
    (c_trim : PySem.W.codeIn K cd_trim "trim" = true)
    (k_trim : PySem.W.keepIn K (.ref f_trim) = true)
    (a_used_numbers : PySem.W.nsIn K mainGlobals "_used_numbers" = some (some (.ref f_used_numbers)))
    (l_used_numbers : K.lookup f_used_numbers = some ⟨oc_used_numbers, od_used_numbers, .func (PySem.W.fnOf "_used_numbers" "_used_numbers" (defArgs s_used_numbers) (defBody s_used_numbers) (defScope s_used_numbers) .none kV_used_numbers dc_used_numbers pm_used_numbers an_used_numbers cd_used_numbers ct_used_numbers), sl_used_numbers⟩)
    (c_used_numbers : PySem.W.codeIn K cd_used_numbers "_used_numbers" = true)
    (k_used_numbers : PySem.W.keepIn K (.ref f_used_numbers) = true)
    (a_renumbered : PySem.W.nsIn K mainGlobals "_renumbered" = some (some (.ref f_renumbered)))
    (l_renumbered : K.lookup f_renumbered = some ⟨oc_renumbered, od_renumbered, .func (PySem.W.fnOf "_renumbered" "_renumbered" (defArgs s_renumbered) (defBody s_renumbered) (defScope s_renumbered) .none kV_renumbered dc_renumbered pm_renumbered an_renumbered cd_renumbered ct_renumbered), sl_renumbered⟩)
    (c_renumbered : PySem.W.codeIn K cd_renumbered "_renumbered" = true)
    (k_renumbered : PySem.W.keepIn K (.ref f_renumbered) = true)
    (a_moved : PySem.W.nsIn K mainGlobals "_moved" = some (some (.ref f_moved)))
    (l_moved : K.lookup f_moved = some ⟨oc_moved, od_moved, .func (PySem.W.fnOf "_moved" "_moved" (defArgs s_moved) (defBody s_moved) (defScope s_moved) .none kV_moved dc_moved pm_moved an_moved cd_moved ct_moved), sl_moved⟩)
    (c_moved : PySem.W.codeIn K cd_moved "_moved" = true)
    (k_moved : PySem.W.keepIn K (.ref f_moved) = true)
    (a_pool : PySem.W.nsIn K mainGlobals "_law_pool" = some (some (.ref f_pool)))
    (l_pool : K.lookup f_pool = some ⟨oc_pool, od_pool, .func (PySem.W.fnOf "_law_pool" "_law_pool" (defArgs s_pool) (defBody s_pool) (defScope s_pool) .none kV_pool dc_pool pm_pool an_pool cd_pool ct_pool), sl_pool⟩)
    (c_pool : PySem.W.codeIn K cd_pool "_law_pool" = true)
    (k_pool : PySem.W.keepIn K (.ref f_pool) = true)
    (a_take : PySem.W.nsIn K mainGlobals "_law_take" = some (some (.ref f_take)))
    (l_take : K.lookup f_take = some ⟨oc_take, od_take, .func (PySem.W.fnOf "_law_take" "_law_take" (defArgs s_take) (defBody s_take) (defScope s_take) .none kV_take dc_take pm_take an_take cd_take ct_take), sl_take⟩)
    (c_take : PySem.W.codeIn K cd_take "_law_take" = true)
    (k_take : PySem.W.keepIn K (.ref f_take) = true)
    (a_whole : PySem.W.nsIn K mainGlobals "_law_whole" = some (some (.ref f_whole)))
    (l_whole : K.lookup f_whole = some ⟨oc_whole, od_whole, .func (PySem.W.fnOf "_law_whole" "_law_whole" (defArgs s_whole) (defBody s_whole) (defScope s_whole) .none kV_whole dc_whole pm_whole an_whole cd_whole ct_whole), sl_whole⟩)
    (c_whole : PySem.W.codeIn K cd_whole "_law_whole" = true)
    (k_whole : PySem.W.keepIn K (.ref f_whole) = true)
    (a_alike : PySem.W.nsIn K mainGlobals "_law_alike" = some (some (.ref f_alike)))
    (l_alike : K.lookup f_alike = some ⟨oc_alike, od_alike, .func (PySem.W.fnOf "_law_alike" "_law_alike" (defArgs s_alike) (defBody s_alike) (defScope s_alike) .none kV_alike dc_alike pm_alike an_alike cd_alike ct_alike), sl_alike⟩)
    (c_alike : PySem.W.codeIn K cd_alike "_law_alike" = true)
    (k_alike : PySem.W.keepIn K (.ref f_alike) = true)
    (a_alike_lists : PySem.W.nsIn K mainGlobals "_law_alike_lists" = some (some (.ref f_alike_lists)))
    (l_alike_lists : K.lookup f_alike_lists = some ⟨oc_alike_lists, od_alike_lists, .func (PySem.W.fnOf "_law_alike_lists" "_law_alike_lists" (defArgs s_alike_lists) (defBody s_alike_lists) (defScope s_alike_lists) .none kV_alike_lists dc_alike_lists pm_alike_lists an_alike_lists cd_alike_lists ct_alike_lists), sl_alike_lists⟩)
    (c_alike_lists : PySem.W.codeIn K cd_alike_lists "_law_alike_lists" = true)
    (k_alike_lists : PySem.W.keepIn K (.ref f_alike_lists) = true)
    (a_literal : PySem.W.nsIn K mainGlobals "_law_literal" = some (some (.ref f_literal)))
    (l_literal : K.lookup f_literal = some ⟨oc_literal, od_literal, .func (PySem.W.fnOf "_law_literal" "_law_literal" (defArgs s_literal) (defBody s_literal) (defScope s_literal) .none kV_literal dc_literal pm_literal an_literal cd_literal ct_literal), sl_literal⟩)
    (c_literal : PySem.W.codeIn K cd_literal "_law_literal" = true)
    (k_literal : PySem.W.keepIn K (.ref f_literal) = true)
    (a_literals : PySem.W.nsIn K mainGlobals "_law_literals" = some (some (.ref f_literals)))
    (l_literals : K.lookup f_literals = some ⟨oc_literals, od_literals, .func (PySem.W.fnOf "_law_literals" "_law_literals" (defArgs s_literals) (defBody s_literals) (defScope s_literals) .none kV_literals dc_literals pm_literals an_literals cd_literals ct_literals), sl_literals⟩)
    (c_literals : PySem.W.codeIn K cd_literals "_law_literals" = true)
    (k_literals : PySem.W.keepIn K (.ref f_literals) = true)
    (a_step : PySem.W.nsIn K mainGlobals "_law_step" = some (some (.ref f_step)))
    (l_step : K.lookup f_step = some ⟨oc_step, od_step, .func (PySem.W.fnOf "_law_step" "_law_step" (defArgs s_step) (defBody s_step) (defScope s_step) .none kV_step dc_step pm_step an_step cd_step ct_step), sl_step⟩)
    (c_step : PySem.W.codeIn K cd_step "_law_step" = true)
    (k_step : PySem.W.keepIn K (.ref f_step) = true)
    (a_due : PySem.W.nsIn K mainGlobals "_law_due" = some (some (.ref f_due)))
    (l_due : K.lookup f_due = some ⟨oc_due, od_due, .func (PySem.W.fnOf "_law_due" "_law_due" (defArgs s_due) (defBody s_due) (defScope s_due) .none kV_due dc_due pm_due an_due cd_due ct_due), sl_due⟩)
    (c_due : PySem.W.codeIn K cd_due "_law_due" = true)
    (k_due : PySem.W.keepIn K (.ref f_due) = true)
    (a_Lmoved : PySem.W.nsIn K mainGlobals "_law_moved" = some (some (.ref f_Lmoved)))
    (l_Lmoved : K.lookup f_Lmoved = some ⟨oc_Lmoved, od_Lmoved, .func (PySem.W.fnOf "_law_moved" "_law_moved" (defArgs s_Lmoved) (defBody s_Lmoved) (defScope s_Lmoved) .none kV_Lmoved dc_Lmoved pm_Lmoved an_Lmoved cd_Lmoved ct_Lmoved), sl_Lmoved⟩)
    (c_Lmoved : PySem.W.codeIn K cd_Lmoved "_law_moved" = true)
    (k_Lmoved : PySem.W.keepIn K (.ref f_Lmoved) = true)
    (a_trims : PySem.W.nsIn K mainGlobals "_law_trims" = some (some (.ref f_trims)))
    (l_trims : K.lookup f_trims = some ⟨oc_trims, od_trims, .func (PySem.W.fnOf "_law_trims" "_law_trims" (defArgs s_trims) (defBody s_trims) (defScope s_trims) .none kV_trims dc_trims pm_trims an_trims cd_trims ct_trims), sl_trims⟩)
    (c_trims : PySem.W.codeIn K cd_trims "_law_trims" = true)
    (k_trims : PySem.W.keepIn K (.ref f_trims) = true)
    (a_keeps : PySem.W.nsIn K mainGlobals "_law_keeps" = some (some (.ref f_keeps)))
    (l_keeps : K.lookup f_keeps = some ⟨oc_keeps, od_keeps, .func (PySem.W.fnOf "_law_keeps" "_law_keeps" (defArgs s_keeps) (defBody s_keeps) (defScope s_keeps) .none kV_keeps dc_keeps pm_keeps an_keeps cd_keeps ct_keeps), sl_keeps⟩)
    (c_keeps : PySem.W.codeIn K cd_keeps "_law_keeps" = true)
    (k_keeps : PySem.W.keepIn K (.ref f_keeps) = true)
    (a_takes : PySem.W.nsIn K mainGlobals "_law_takes" = some (some (.ref f_takes)))
    (l_takes : K.lookup f_takes = some ⟨oc_takes, od_takes, .func (PySem.W.fnOf "_law_takes" "_law_takes" (defArgs s_takes) (defBody s_takes) (defScope s_takes) .none kV_takes dc_takes pm_takes an_takes cd_takes ct_takes), sl_takes⟩)
    (c_takes : PySem.W.codeIn K cd_takes "_law_takes" = true)
    (k_takes : PySem.W.keepIn K (.ref f_takes) = true)
    (a_law : PySem.W.nsIn K mainGlobals "law" = some (some (.ref f_law)))
    (l_law : K.lookup f_law = some ⟨oc_law, od_law, .func (PySem.W.fnOf "law" "law" (defArgs s_law) (defBody s_law) (defScope s_law) .none kV_law dc_law pm_law an_law cd_law ct_law), sl_law⟩)
    (c_law : PySem.W.codeIn K cd_law "law" = true)
    (k_law : PySem.W.keepIn K (.ref f_law) = true)
    (m_len : PySem.W.nsIn K mainGlobals "len" = some none)
    (m_int : PySem.W.nsIn K mainGlobals "int" = some none)
    (m_abs : PySem.W.nsIn K mainGlobals "abs" = some none)
    (m_isinstance : PySem.W.nsIn K mainGlobals "isinstance" = some none)
    (m_range : PySem.W.nsIn K mainGlobals "range" = some none)
    (m_bool : PySem.W.nsIn K mainGlobals "bool" = some none)
    (m_str : PySem.W.nsIn K mainGlobals "str" = some none)
    (m_list : PySem.W.nsIn K mainGlobals "list" = some none)
    (m_tuple : PySem.W.nsIn K mainGlobals "tuple" = some none)
    (m_sorted : PySem.W.nsIn K mainGlobals "sorted" = some none)
    (m_enumerate : PySem.W.nsIn K mainGlobals "enumerate" = some none)
    (m_reversed : PySem.W.nsIn K mainGlobals "reversed" = some none)
    (m_iter : PySem.W.nsIn K mainGlobals "iter" = some none)
    (n_Log : PySem.W.nsIn K mainGlobals "Log" = some (some (.ref C_Log)))
    (a_Log_init : PySem.W.findIn K (.ref C_Log) "__init__" = some (some (.ref f_Log_init)))
    (i_Log_init : PySem.W.typeIn K (.ref f_Log_init) = some (.type "function"))
    (l_Log_init : K.lookup f_Log_init = some ⟨oc_Log_init, od_Log_init, .func (PySem.W.fnOf "__init__" "Log.__init__" (defArgs s_Log_init) (defBody s_Log_init) (defScope s_Log_init) .none kV_Log_init dc_Log_init pm_Log_init an_Log_init cd_Log_init ct_Log_init), sl_Log_init⟩)
    (c_Log_init : PySem.W.codeIn K cd_Log_init "Log.__init__" = true)
    (k_Log_init : PySem.W.keepIn K (.ref f_Log_init) = true)
    (a_Log_write : PySem.W.findIn K (.ref C_Log) "write" = some (some (.ref f_Log_write)))
    (i_Log_write : PySem.W.typeIn K (.ref f_Log_write) = some (.type "function"))
    (l_Log_write : K.lookup f_Log_write = some ⟨oc_Log_write, od_Log_write, .func (PySem.W.fnOf "write" "Log.write" (defArgs s_Log_write) (defBody s_Log_write) (defScope s_Log_write) .none kV_Log_write dc_Log_write pm_Log_write an_Log_write cd_Log_write ct_Log_write), sl_Log_write⟩)
    (c_Log_write : PySem.W.codeIn K cd_Log_write "Log.write" = true)
    (k_Log_write : PySem.W.keepIn K (.ref f_Log_write) = true)
    (a_Log_take : PySem.W.findIn K (.ref C_Log) "take" = some (some (.ref f_Log_take)))
    (i_Log_take : PySem.W.typeIn K (.ref f_Log_take) = some (.type "function"))
    (l_Log_take : K.lookup f_Log_take = some ⟨oc_Log_take, od_Log_take, .func (PySem.W.fnOf "take" "Log.take" (defArgs s_Log_take) (defBody s_Log_take) (defScope s_Log_take) .none kV_Log_take dc_Log_take pm_Log_take an_Log_take cd_Log_take ct_Log_take), sl_Log_take⟩)
    (c_Log_take : PySem.W.codeIn K cd_Log_take "Log.take" = true)
    (k_Log_take : PySem.W.keepIn K (.ref f_Log_take) = true)
    (a_Log_step : PySem.W.findIn K (.ref C_Log) "step" = some (some (.ref f_Log_step)))
    (i_Log_step : PySem.W.typeIn K (.ref f_Log_step) = some (.type "function"))
    (l_Log_step : K.lookup f_Log_step = some ⟨oc_Log_step, od_Log_step, .func (PySem.W.fnOf "step" "Log.step" (defArgs s_Log_step) (defBody s_Log_step) (defScope s_Log_step) .none kV_Log_step dc_Log_step pm_Log_step an_Log_step cd_Log_step ct_Log_step), sl_Log_step⟩)
    (c_Log_step : PySem.W.codeIn K cd_Log_step "Log.step" = true)
    (k_Log_step : PySem.W.keepIn K (.ref f_Log_step) = true)
    (a_Log_clause_at : PySem.W.findIn K (.ref C_Log) "clause_at" = some (some (.ref f_Log_clause_at)))
    (i_Log_clause_at : PySem.W.typeIn K (.ref f_Log_clause_at) = some (.type "function"))
    (l_Log_clause_at : K.lookup f_Log_clause_at = some ⟨oc_Log_clause_at, od_Log_clause_at, .func (PySem.W.fnOf "clause_at" "Log.clause_at" (defArgs s_Log_clause_at) (defBody s_Log_clause_at) (defScope s_Log_clause_at) .none kV_Log_clause_at dc_Log_clause_at pm_Log_clause_at an_Log_clause_at cd_Log_clause_at ct_Log_clause_at), sl_Log_clause_at⟩)
    (c_Log_clause_at : PySem.W.codeIn K cd_Log_clause_at "Log.clause_at" = true)
    (k_Log_clause_at : PySem.W.keepIn K (.ref f_Log_clause_at) = true)
    (a_Log_all_steps : PySem.W.findIn K (.ref C_Log) "all_steps" = some (some (.ref f_Log_all_steps)))
    (i_Log_all_steps : PySem.W.typeIn K (.ref f_Log_all_steps) = some (.type "function"))
    (l_Log_all_steps : K.lookup f_Log_all_steps = some ⟨oc_Log_all_steps, od_Log_all_steps, .func (PySem.W.fnOf "all_steps" "Log.all_steps" (defArgs s_Log_all_steps) (defBody s_Log_all_steps) (defScope s_Log_all_steps) .none kV_Log_all_steps dc_Log_all_steps pm_Log_all_steps an_Log_all_steps cd_Log_all_steps ct_Log_all_steps), sl_Log_all_steps⟩)
    (c_Log_all_steps : PySem.W.codeIn K cd_Log_all_steps "Log.all_steps" = true)
    (k_Log_all_steps : PySem.W.keepIn K (.ref f_Log_all_steps) = true)
    (a_Log_len : PySem.W.findIn K (.ref C_Log) "__len__" = some (some (.ref f_Log_len)))
    (i_Log_len : PySem.W.typeIn K (.ref f_Log_len) = some (.type "function"))
    (l_Log_len : K.lookup f_Log_len = some ⟨oc_Log_len, od_Log_len, .func (PySem.W.fnOf "__len__" "Log.__len__" (defArgs s_Log_len) (defBody s_Log_len) (defScope s_Log_len) .none kV_Log_len dc_Log_len pm_Log_len an_Log_len cd_Log_len ct_Log_len), sl_Log_len⟩)
    (c_Log_len : PySem.W.codeIn K cd_Log_len "Log.__len__" = true)
    (k_Log_len : PySem.W.keepIn K (.ref f_Log_len) = true)
    (a_Log_iter : PySem.W.findIn K (.ref C_Log) "__iter__" = some (some (.ref f_Log_iter)))
    (i_Log_iter : PySem.W.typeIn K (.ref f_Log_iter) = some (.type "function"))
    (l_Log_iter : K.lookup f_Log_iter = some ⟨oc_Log_iter, od_Log_iter, .func (PySem.W.fnOf "__iter__" "Log.__iter__" (defArgs s_Log_iter) (defBody s_Log_iter) (defScope s_Log_iter) .none kV_Log_iter dc_Log_iter pm_Log_iter an_Log_iter cd_Log_iter ct_Log_iter), sl_Log_iter⟩)
    (c_Log_iter : PySem.W.codeIn K cd_Log_iter "Log.__iter__" = true)
    (k_Log_iter : PySem.W.keepIn K (.ref f_Log_iter) = true)
    (pg_Log : PySem.W.plainGet K C_Log Str.empty = true)
    (hd_Log : PySem.W.hasDictIn K C_Log = true)
    (po_Log : PySem.W.plainOver K C_Log = true)
    (sa_Log : PySem.W.findIn K (.ref C_Log) "__setattr__" = some (some (.builtin "object.__setattr__")))
    (mk_Log : PySem.W.makesIn K C_Log = true)
    (kc_Log : PySem.W.keepIn K (.ref C_Log) = true)
    (nf_Log__steps : PySem.W.findIn K (.ref C_Log) "_steps" = some none) :
    ∃ fd : FuncData, (∀ (s : Shared) (v : Value), BindsTo s fd ⟨[v], []⟩ [("_law_script", v)]) ∧ ∀ base : Heap, K.In base → base.Ns mainGlobals mg → FnOk l.prog w K mg base CX0 11 fa fd ["_law_script"] (spLaw K) := by
  have e := hfa.symm.trans (PySem.W.mg_of X G a_law)
  have e2 : f_law = fa := by
    cases e
    rfl
  subst e2
  let T : Txt K mg := {
    f_trim := f_trim, fd_trim := _, F_trim := fun_mk (st := s_trim) l_trim c_trim k_trim, b_trim := (fun_mk (st := s_trim) l_trim c_trim k_trim).binds (ps := ["steps"]) fun _ _ _ _ _ _ us hl => match us, hl with | [_], _ => rfl, g_trim := PySem.W.mg_of X G a_trim,
    f_used_numbers := f_used_numbers, fd_used_numbers := _, F_used_numbers := fun_mk (st := s_used_numbers) l_used_numbers c_used_numbers k_used_numbers, b_used_numbers := (fun_mk (st := s_used_numbers) l_used_numbers c_used_numbers k_used_numbers).binds (ps := ["step"]) fun _ _ _ _ _ _ us hl => match us, hl with | [_], _ => rfl, g_used_numbers := PySem.W.mg_of X G a_used_numbers,
    f_renumbered := f_renumbered, fd_renumbered := _, F_renumbered := fun_mk (st := s_renumbered) l_renumbered c_renumbered k_renumbered, b_renumbered := (fun_mk (st := s_renumbered) l_renumbered c_renumbered k_renumbered).binds (ps := ["step", "places"]) fun _ _ _ _ _ _ us hl => match us, hl with | [_, _], _ => rfl, g_renumbered := PySem.W.mg_of X G a_renumbered,
    f_moved := f_moved, fd_moved := _, F_moved := fun_mk (st := s_moved) l_moved c_moved k_moved, b_moved := (fun_mk (st := s_moved) l_moved c_moved k_moved).binds (ps := ["step", "distance"]) fun _ _ _ _ _ _ us hl => match us, hl with | [_, _], _ => rfl, g_moved := PySem.W.mg_of X G a_moved,
    f_pool := f_pool, fd_pool := _, F_pool := fun_mk (st := s_pool) l_pool c_pool k_pool, b_pool := (fun_mk (st := s_pool) l_pool c_pool k_pool).binds (ps := ["_law_script", "_law_k"]) fun _ _ _ _ _ _ us hl => match us, hl with | [_, _], _ => rfl, g_pool := PySem.W.mg_of X G a_pool,
    f_take := f_take, fd_take := _, F_take := fun_mk (st := s_take) l_take c_take k_take, b_take := (fun_mk (st := s_take) l_take c_take k_take).binds (ps := ["_law_pool_here", "_law_size"]) fun _ _ _ _ _ _ us hl => match us, hl with | [_, _], _ => rfl, g_take := PySem.W.mg_of X G a_take,
    f_whole := f_whole, fd_whole := _, F_whole := fun_mk (st := s_whole) l_whole c_whole k_whole, b_whole := (fun_mk (st := s_whole) l_whole c_whole k_whole).binds (ps := ["_law_value"]) fun _ _ _ _ _ _ us hl => match us, hl with | [_], _ => rfl, g_whole := PySem.W.mg_of X G a_whole,
    f_alike := f_alike, fd_alike := _, F_alike := fun_mk (st := s_alike) l_alike c_alike k_alike, b_alike := (fun_mk (st := s_alike) l_alike c_alike k_alike).binds (ps := ["_law_told", "_law_due_here"]) fun _ _ _ _ _ _ us hl => match us, hl with | [_, _], _ => rfl, g_alike := PySem.W.mg_of X G a_alike,
    f_alike_lists := f_alike_lists, fd_alike_lists := _, F_alike_lists := fun_mk (st := s_alike_lists) l_alike_lists c_alike_lists k_alike_lists, b_alike_lists := (fun_mk (st := s_alike_lists) l_alike_lists c_alike_lists k_alike_lists).binds (ps := ["_law_told", "_law_due_here"]) fun _ _ _ _ _ _ us hl => match us, hl with | [_, _], _ => rfl, g_alike_lists := PySem.W.mg_of X G a_alike_lists,
    f_literal := f_literal, fd_literal := _, F_literal := fun_mk (st := s_literal) l_literal c_literal k_literal, b_literal := (fun_mk (st := s_literal) l_literal c_literal k_literal).binds (ps := ["_law_pool_here"]) fun _ _ _ _ _ _ us hl => match us, hl with | [_], _ => rfl, g_literal := PySem.W.mg_of X G a_literal,
    f_literals := f_literals, fd_literals := _, F_literals := fun_mk (st := s_literals) l_literals c_literals k_literals, b_literals := (fun_mk (st := s_literals) l_literals c_literals k_literals).binds (ps := ["_law_pool_here"]) fun _ _ _ _ _ _ us hl => match us, hl with | [_], _ => rfl, g_literals := PySem.W.mg_of X G a_literals,
    f_step := f_step, fd_step := _, F_step := fun_mk (st := s_step) l_step c_step k_step, b_step := (fun_mk (st := s_step) l_step c_step k_step).binds (ps := ["_law_pool_here", "_law_steps"]) fun _ _ _ _ _ _ us hl => match us, hl with | [_, _], _ => rfl, g_step := PySem.W.mg_of X G a_step,
    f_due := f_due, fd_due := _, F_due := fun_mk (st := s_due) l_due c_due k_due, b_due := (fun_mk (st := s_due) l_due c_due k_due).binds (ps := ["_law_steps"]) fun _ _ _ _ _ _ us hl => match us, hl with | [_], _ => rfl, g_due := PySem.W.mg_of X G a_due,
    f_Lmoved := f_Lmoved, fd_Lmoved := _, F_Lmoved := fun_mk (st := s_Lmoved) l_Lmoved c_Lmoved k_Lmoved, b_Lmoved := (fun_mk (st := s_Lmoved) l_Lmoved c_Lmoved k_Lmoved).binds (ps := ["_law_step_here", "_law_start"]) fun _ _ _ _ _ _ us hl => match us, hl with | [_, _], _ => rfl, g_Lmoved := PySem.W.mg_of X G a_Lmoved,
    f_trims := f_trims, fd_trims := _, F_trims := fun_mk (st := s_trims) l_trims c_trims k_trims, b_trims := (fun_mk (st := s_trims) l_trims c_trims k_trims).binds (ps := ["_law_steps"]) fun _ _ _ _ _ _ us hl => match us, hl with | [_], _ => rfl, g_trims := PySem.W.mg_of X G a_trims,
    f_keeps := f_keeps, fd_keeps := _, F_keeps := fun_mk (st := s_keeps) l_keeps c_keeps k_keeps, b_keeps := (fun_mk (st := s_keeps) l_keeps c_keeps k_keeps).binds (ps := ["_law_log", "_law_steps"]) fun _ _ _ _ _ _ us hl => match us, hl with | [_, _], _ => rfl, g_keeps := PySem.W.mg_of X G a_keeps,
    f_takes := f_takes, fd_takes := _, F_takes := fun_mk (st := s_takes) l_takes c_takes k_takes, b_takes := (fun_mk (st := s_takes) l_takes c_takes k_takes).binds (ps := ["_law_log", "_law_before", "_law_steps"]) fun _ _ _ _ _ _ us hl => match us, hl with | [_, _, _], _ => rfl, g_takes := PySem.W.mg_of X G a_takes,
    f_law := f_law, fd_law := _, F_law := fun_mk (st := s_law) l_law c_law k_law, b_law := (fun_mk (st := s_law) l_law c_law k_law).binds (ps := ["_law_script"]) fun _ _ _ _ _ _ us hl => match us, hl with | [_], _ => rfl, g_law := PySem.W.mg_of X G a_law,
    m_len := PySem.W.mg_none_of X G m_len,
    m_int := PySem.W.mg_none_of X G m_int,
    m_abs := PySem.W.mg_none_of X G m_abs,
    m_isinstance := PySem.W.mg_none_of X G m_isinstance,
    m_range := PySem.W.mg_none_of X G m_range,
    m_bool := PySem.W.mg_none_of X G m_bool,
    m_str := PySem.W.mg_none_of X G m_str,
    m_list := PySem.W.mg_none_of X G m_list,
    m_tuple := PySem.W.mg_none_of X G m_tuple,
    m_sorted := PySem.W.mg_none_of X G m_sorted,
    m_enumerate := PySem.W.mg_none_of X G m_enumerate,
    m_reversed := PySem.W.mg_none_of X G m_reversed,
    m_iter := PySem.W.mg_none_of X G m_iter,
    f_Log_init := f_Log_init, fd_Log_init := _, F_Log_init := fun_mk (st := s_Log_init) l_Log_init c_Log_init k_Log_init, b_Log_init := (fun_mk (st := s_Log_init) l_Log_init c_Log_init k_Log_init).binds (ps := ["self"]) fun _ _ _ _ _ _ us hl => match us, hl with | [_], _ => rfl,
    f_Log_write := f_Log_write, fd_Log_write := _, F_Log_write := fun_mk (st := s_Log_write) l_Log_write c_Log_write k_Log_write, b_Log_write := (fun_mk (st := s_Log_write) l_Log_write c_Log_write k_Log_write).binds (ps := ["self", "kind", "clause", "details"]) fun _ _ _ _ _ _ us hl => match us, hl with | [_, _, _, _], _ => rfl,
    f_Log_take := f_Log_take, fd_Log_take := _, F_Log_take := fun_mk (st := s_Log_take) l_Log_take c_Log_take k_Log_take, b_Log_take := (fun_mk (st := s_Log_take) l_Log_take c_Log_take k_Log_take).binds (ps := ["self", "steps"]) fun _ _ _ _ _ _ us hl => match us, hl with | [_, _], _ => rfl,
    f_Log_step := f_Log_step, fd_Log_step := _, F_Log_step := fun_mk (st := s_Log_step) l_Log_step c_Log_step k_Log_step, b_Log_step := (fun_mk (st := s_Log_step) l_Log_step c_Log_step k_Log_step).binds (ps := ["self", "number"]) fun _ _ _ _ _ _ us hl => match us, hl with | [_, _], _ => rfl,
    f_Log_clause_at := f_Log_clause_at, fd_Log_clause_at := _, F_Log_clause_at := fun_mk (st := s_Log_clause_at) l_Log_clause_at c_Log_clause_at k_Log_clause_at, b_Log_clause_at := (fun_mk (st := s_Log_clause_at) l_Log_clause_at c_Log_clause_at k_Log_clause_at).binds (ps := ["self", "number"]) fun _ _ _ _ _ _ us hl => match us, hl with | [_, _], _ => rfl,
    f_Log_all_steps := f_Log_all_steps, fd_Log_all_steps := _, F_Log_all_steps := fun_mk (st := s_Log_all_steps) l_Log_all_steps c_Log_all_steps k_Log_all_steps, b_Log_all_steps := (fun_mk (st := s_Log_all_steps) l_Log_all_steps c_Log_all_steps k_Log_all_steps).binds (ps := ["self"]) fun _ _ _ _ _ _ us hl => match us, hl with | [_], _ => rfl,
    f_Log_len := f_Log_len, fd_Log_len := _, F_Log_len := fun_mk (st := s_Log_len) l_Log_len c_Log_len k_Log_len, b_Log_len := (fun_mk (st := s_Log_len) l_Log_len c_Log_len k_Log_len).binds (ps := ["self"]) fun _ _ _ _ _ _ us hl => match us, hl with | [_], _ => rfl,
    f_Log_iter := f_Log_iter, fd_Log_iter := _, F_Log_iter := fun_mk (st := s_Log_iter) l_Log_iter c_Log_iter k_Log_iter, b_Log_iter := (fun_mk (st := s_Log_iter) l_Log_iter c_Log_iter k_Log_iter).binds (ps := ["self"]) fun _ _ _ _ _ _ us hl => match us, hl with | [_], _ => rfl,
    C_Log := C_Log, c_Log := PySem.W.mg_of X G n_Log, cl_Log := ⟨pg_Log, hd_Log, po_Log, sa_Log⟩, mk_Log := ⟨mk_Log, a_Log_init, beq_iff_eq.mpr i_Log_init, kc_Log⟩,
    n_Log__steps := nf_Log__steps,
    M_Log_init := ⟨a_Log_init, beq_iff_eq.mpr i_Log_init, k_Log_init⟩,
    M_Log_write := ⟨a_Log_write, beq_iff_eq.mpr i_Log_write, k_Log_write⟩,
    M_Log_take := ⟨a_Log_take, beq_iff_eq.mpr i_Log_take, k_Log_take⟩,
    M_Log_step := ⟨a_Log_step, beq_iff_eq.mpr i_Log_step, k_Log_step⟩,
    M_Log_clause_at := ⟨a_Log_clause_at, beq_iff_eq.mpr i_Log_clause_at, k_Log_clause_at⟩,
    M_Log_all_steps := ⟨a_Log_all_steps, beq_iff_eq.mpr i_Log_all_steps, k_Log_all_steps⟩,
    M_Log_len := ⟨a_Log_len, beq_iff_eq.mpr i_Log_len, k_Log_len⟩,
    M_Log_iter := ⟨a_Log_iter, beq_iff_eq.mpr i_Log_iter, k_Log_iter⟩,
    ln_Log := ⟨a_Log_len, i_Log_len⟩,
    it_Log := ⟨a_Log_iter, beq_iff_eq.mpr i_Log_iter, a_Log_len, i_Log_len⟩ }
  exact ⟨PySem.W.fnOf "law" "law" (defArgs s_law) (defBody s_law) (defScope s_law) .none kV_law dc_law pm_law an_law cd_law ct_law, fun s v => .of_eq rfl, fun base _ _ => ok_law T⟩
end L

open PySem PySem.W PyProof.Rows
set_option maxHeartbeats 0 in
theorem PySem.Challenge.cw_papersat_k32_trimmed_lists_holds : PySem.Challenge.rw_papersat_k32_trimmed_lists.Holds := by
  w_on; o_law; k_head; (case hw => w_witness2)
  k_fill
  refine L2.walk_of (l := PySem.Challenge.rw_papersat_k32_trimmed_lists) (n := 63) (k := 11) (x := "_law_script") (CX := fun _ => L2.CX0) (sp := fun w => L.spLaw _) rfl (by decide) rfl ⟨rfl, by decide, by decide⟩ (fun w h Y => PySem.W.kIn_of Y) ?F (fun _ _ a ns hl _ hS => ⟨a, ns, rfl, hS, hl, fun _ => rfl⟩) (fun _ _ _ _ _ h => h)
  case F =>
    intro w mg fa h KX G hmg
    refine' L.all_mk KX G hmg ?a_trim ?l_trim ?c_trim ?k_trim ?a_used_numbers ?l_used_numbers ?c_used_numbers ?k_used_numbers ?a_renumbered ?l_renumbered ?c_renumbered ?k_renumbered ?a_moved ?l_moved ?c_moved ?k_moved ?a_pool ?l_pool ?c_pool ?k_pool ?a_take ?l_take ?c_take ?k_take ?a_whole ?l_whole ?c_whole ?k_whole ?a_alike ?l_alike ?c_alike ?k_alike ?a_alike_lists ?l_alike_lists ?c_alike_lists ?k_alike_lists ?a_literal ?l_literal ?c_literal ?k_literal ?a_literals ?l_literals ?c_literals ?k_literals ?a_step ?l_step ?c_step ?k_step ?a_due ?l_due ?c_due ?k_due ?a_Lmoved ?l_Lmoved ?c_Lmoved ?k_Lmoved ?a_trims ?l_trims ?c_trims ?k_trims ?a_keeps ?l_keeps ?c_keeps ?k_keeps ?a_takes ?l_takes ?c_takes ?k_takes ?a_law ?l_law ?c_law ?k_law ?m_len ?m_int ?m_abs ?m_isinstance ?m_range ?m_bool ?m_str ?m_list ?m_tuple ?m_sorted ?m_enumerate ?m_reversed ?m_iter ?n_Log ?a_Log_init ?i_Log_init ?l_Log_init ?c_Log_init ?k_Log_init ?a_Log_write ?i_Log_write ?l_Log_write ?c_Log_write ?k_Log_write ?a_Log_take ?i_Log_take ?l_Log_take ?c_Log_take ?k_Log_take ?a_Log_step ?i_Log_step ?l_Log_step ?c_Log_step ?k_Log_step ?a_Log_clause_at ?i_Log_clause_at ?l_Log_clause_at ?c_Log_clause_at ?k_Log_clause_at ?a_Log_all_steps ?i_Log_all_steps ?l_Log_all_steps ?c_Log_all_steps ?k_Log_all_steps ?a_Log_len ?i_Log_len ?l_Log_len ?c_Log_len ?k_Log_len ?a_Log_iter ?i_Log_iter ?l_Log_iter ?c_Log_iter ?k_Log_iter ?pg_Log ?hd_Log ?po_Log ?sa_Log ?mk_Log ?kc_Log ?nf_Log__steps
    (case a_trim => first | k_is | k_exc | rfl | kernel_rfl); (case l_trim => first | k_is | k_exc | rfl | kernel_rfl); (case c_trim => first | k_is | k_exc | rfl | kernel_rfl); (case k_trim => first | k_is | k_exc | rfl | kernel_rfl); (case a_used_numbers => first | k_is | k_exc | rfl | kernel_rfl); (case l_used_numbers => first | k_is | k_exc | rfl | kernel_rfl); (case c_used_numbers => first | k_is | k_exc | rfl | kernel_rfl); (case k_used_numbers => first | k_is | k_exc | rfl | kernel_rfl); (case a_renumbered => first | k_is | k_exc | rfl | kernel_rfl); (case l_renumbered => first | k_is | k_exc | rfl | kernel_rfl); (case c_renumbered => first | k_is | k_exc | rfl | kernel_rfl); (case k_renumbered => first | k_is | k_exc | rfl | kernel_rfl); (case a_moved => first | k_is | k_exc | rfl | kernel_rfl); (case l_moved => first | k_is | k_exc | rfl | kernel_rfl); (case c_moved => first | k_is | k_exc | rfl | kernel_rfl); (case k_moved => first | k_is | k_exc | rfl | kernel_rfl); (case a_pool => first | k_is | k_exc | rfl | kernel_rfl); (case l_pool => first | k_is | k_exc | rfl | kernel_rfl); (case c_pool => first | k_is | k_exc | rfl | kernel_rfl); (case k_pool => first | k_is | k_exc | rfl | kernel_rfl); (case a_take => first | k_is | k_exc | rfl | kernel_rfl); (case l_take => first | k_is | k_exc | rfl | kernel_rfl); (case c_take => first | k_is | k_exc | rfl | kernel_rfl); (case k_take => first | k_is | k_exc | rfl | kernel_rfl); (case a_whole => first | k_is | k_exc | rfl | kernel_rfl); (case l_whole => first | k_is | k_exc | rfl | kernel_rfl); (case c_whole => first | k_is | k_exc | rfl | kernel_rfl); (case k_whole => first | k_is | k_exc | rfl | kernel_rfl); (case a_alike => first | k_is | k_exc | rfl | kernel_rfl); (case l_alike => first | k_is | k_exc | rfl | kernel_rfl); (case c_alike => first | k_is | k_exc | rfl | kernel_rfl); (case k_alike => first | k_is | k_exc | rfl | kernel_rfl); (case a_alike_lists => first | k_is | k_exc | rfl | kernel_rfl); (case l_alike_lists => first | k_is | k_exc | rfl | kernel_rfl); (case c_alike_lists => first | k_is | k_exc | rfl | kernel_rfl); (case k_alike_lists => first | k_is | k_exc | rfl | kernel_rfl); (case a_literal => first | k_is | k_exc | rfl | kernel_rfl); (case l_literal => first | k_is | k_exc | rfl | kernel_rfl); (case c_literal => first | k_is | k_exc | rfl | kernel_rfl); (case k_literal => first | k_is | k_exc | rfl | kernel_rfl); (case a_literals => first | k_is | k_exc | rfl | kernel_rfl); (case l_literals => first | k_is | k_exc | rfl | kernel_rfl); (case c_literals => first | k_is | k_exc | rfl | kernel_rfl); (case k_literals => first | k_is | k_exc | rfl | kernel_rfl); (case a_step => first | k_is | k_exc | rfl | kernel_rfl); (case l_step => first | k_is | k_exc | rfl | kernel_rfl); (case c_step => first | k_is | k_exc | rfl | kernel_rfl); (case k_step => first | k_is | k_exc | rfl | kernel_rfl); (case a_due => first | k_is | k_exc | rfl | kernel_rfl); (case l_due => first | k_is | k_exc | rfl | kernel_rfl); (case c_due => first | k_is | k_exc | rfl | kernel_rfl); (case k_due => first | k_is | k_exc | rfl | kernel_rfl); (case a_Lmoved => first | k_is | k_exc | rfl | kernel_rfl); (case l_Lmoved => first | k_is | k_exc | rfl | kernel_rfl); (case c_Lmoved => first | k_is | k_exc | rfl | kernel_rfl); (case k_Lmoved => first | k_is | k_exc | rfl | kernel_rfl); (case a_trims => first | k_is | k_exc | rfl | kernel_rfl); (case l_trims => first | k_is | k_exc | rfl | kernel_rfl); (case c_trims => first | k_is | k_exc | rfl | kernel_rfl); (case k_trims => first | k_is | k_exc | rfl | kernel_rfl); (case a_keeps => first | k_is | k_exc | rfl | kernel_rfl); (case l_keeps => first | k_is | k_exc | rfl | kernel_rfl); (case c_keeps => first | k_is | k_exc | rfl | kernel_rfl); (case k_keeps => first | k_is | k_exc | rfl | kernel_rfl); (case a_takes => first | k_is | k_exc | rfl | kernel_rfl); (case l_takes => first | k_is | k_exc | rfl | kernel_rfl); (case c_takes => first | k_is | k_exc | rfl | kernel_rfl); (case k_takes => first | k_is | k_exc | rfl | kernel_rfl); (case a_law => first | k_is | k_exc | rfl | kernel_rfl); (case l_law => first | k_is | k_exc | rfl | kernel_rfl); (case c_law => first | k_is | k_exc | rfl | kernel_rfl); (case k_law => first | k_is | k_exc | rfl | kernel_rfl); (case m_len => first | k_is | k_exc | rfl | kernel_rfl); (case m_int => first | k_is | k_exc | rfl | kernel_rfl); (case m_abs => first | k_is | k_exc | rfl | kernel_rfl); (case m_isinstance => first | k_is | k_exc | rfl | kernel_rfl); (case m_range => first | k_is | k_exc | rfl | kernel_rfl); (case m_bool => first | k_is | k_exc | rfl | kernel_rfl); (case m_str => first | k_is | k_exc | rfl | kernel_rfl); (case m_list => first | k_is | k_exc | rfl | kernel_rfl); (case m_tuple => first | k_is | k_exc | rfl | kernel_rfl); (case m_sorted => first | k_is | k_exc | rfl | kernel_rfl); (case m_enumerate => first | k_is | k_exc | rfl | kernel_rfl); (case m_reversed => first | k_is | k_exc | rfl | kernel_rfl); (case m_iter => first | k_is | k_exc | rfl | kernel_rfl); (case n_Log => first | k_is | k_exc | rfl | kernel_rfl); (case a_Log_init => first | k_is | k_exc | rfl | kernel_rfl); (case i_Log_init => first | k_is | k_exc | rfl | kernel_rfl); (case l_Log_init => first | k_is | k_exc | rfl | kernel_rfl); (case c_Log_init => first | k_is | k_exc | rfl | kernel_rfl); (case k_Log_init => first | k_is | k_exc | rfl | kernel_rfl); (case a_Log_write => first | k_is | k_exc | rfl | kernel_rfl); (case i_Log_write => first | k_is | k_exc | rfl | kernel_rfl); (case l_Log_write => first | k_is | k_exc | rfl | kernel_rfl); (case c_Log_write => first | k_is | k_exc | rfl | kernel_rfl); (case k_Log_write => first | k_is | k_exc | rfl | kernel_rfl); (case a_Log_take => first | k_is | k_exc | rfl | kernel_rfl); (case i_Log_take => first | k_is | k_exc | rfl | kernel_rfl); (case l_Log_take => first | k_is | k_exc | rfl | kernel_rfl); (case c_Log_take => first | k_is | k_exc | rfl | kernel_rfl); (case k_Log_take => first | k_is | k_exc | rfl | kernel_rfl); (case a_Log_step => first | k_is | k_exc | rfl | kernel_rfl); (case i_Log_step => first | k_is | k_exc | rfl | kernel_rfl); (case l_Log_step => first | k_is | k_exc | rfl | kernel_rfl); (case c_Log_step => first | k_is | k_exc | rfl | kernel_rfl); (case k_Log_step => first | k_is | k_exc | rfl | kernel_rfl); (case a_Log_clause_at => first | k_is | k_exc | rfl | kernel_rfl); (case i_Log_clause_at => first | k_is | k_exc | rfl | kernel_rfl); (case l_Log_clause_at => first | k_is | k_exc | rfl | kernel_rfl); (case c_Log_clause_at => first | k_is | k_exc | rfl | kernel_rfl); (case k_Log_clause_at => first | k_is | k_exc | rfl | kernel_rfl); (case a_Log_all_steps => first | k_is | k_exc | rfl | kernel_rfl); (case i_Log_all_steps => first | k_is | k_exc | rfl | kernel_rfl); (case l_Log_all_steps => first | k_is | k_exc | rfl | kernel_rfl); (case c_Log_all_steps => first | k_is | k_exc | rfl | kernel_rfl); (case k_Log_all_steps => first | k_is | k_exc | rfl | kernel_rfl); (case a_Log_len => first | k_is | k_exc | rfl | kernel_rfl); (case i_Log_len => first | k_is | k_exc | rfl | kernel_rfl); (case l_Log_len => first | k_is | k_exc | rfl | kernel_rfl); (case c_Log_len => first | k_is | k_exc | rfl | kernel_rfl); (case k_Log_len => first | k_is | k_exc | rfl | kernel_rfl); (case a_Log_iter => first | k_is | k_exc | rfl | kernel_rfl); (case i_Log_iter => first | k_is | k_exc | rfl | kernel_rfl); (case l_Log_iter => first | k_is | k_exc | rfl | kernel_rfl); (case c_Log_iter => first | k_is | k_exc | rfl | kernel_rfl); (case k_Log_iter => first | k_is | k_exc | rfl | kernel_rfl); (case pg_Log => first | k_is | k_exc | rfl | kernel_rfl); (case hd_Log => first | k_is | k_exc | rfl | kernel_rfl); (case po_Log => first | k_is | k_exc | rfl | kernel_rfl); (case sa_Log => first | k_is | k_exc | rfl | kernel_rfl); (case mk_Log => first | k_is | k_exc | rfl | kernel_rfl); (case kc_Log => first | k_is | k_exc | rfl | kernel_rfl); (case nf_Log__steps => first | k_is | k_exc | rfl | kernel_rfl)
#print axioms PySem.Challenge.cw_papersat_k32_trimmed_lists_holds
