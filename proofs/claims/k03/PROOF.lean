import PyProof.Rows.All
import Wide.All
import OpenK.AllK
import Wide.FinOn
import HandS.ForMost
import HandS.ForExc
import HandS.IsInst
import HandS.Gcd
import HandS.Defaults
import HandS.Wide
import HandS.WideBits
import HandS.ExcIs
import HandS.Small
import HandS.Flow
import HandS.Evl
import HandS.ExcInit
import HandS.ExcField
import HandS.FStr
import HandS.StrMore
import HandS.Codes
import HandS.Walk
import HandS.TupLe
import KE.KExcIs
import HandS.ExcCtx
import HandS.Hot
import HandS.HotCalls
import HandS.TryMany
import HandS.ExcOwn
import PySem.Challenge.RW_papersat_k03_ratio_words
set_option Elab.async false
set_option linter.all false
set_option maxRecDepth 100000
set_option maxHeartbeats 4000000
/-! ### short words for readings -/
namespace Z
open PySem PySem.Spec PyProof.Rows L2
variable {σ σ' : L2.St} {H : Hp} {Q : VK} {D : Ends} {ta tb te : TE} {t u : TS} {tt tu : TT} {g : TG} {v x y : V} {i : Nat} {K : PySem.W.Frag} {p : Addr}
theorem w_var (h : σ[i]? = some (some v)) (q : Q v H) : tVar i σ H Q := ⟨v, h, q⟩
theorem w_c (q : Q v H) : tC v σ H Q := q
theorem w_op {r : R2} (h : ta σ H fun x H1 => tb σ H1 fun y H2 => r x y H2 Q) : tOp r ta tb σ H Q := h
theorem w_un {r : V → Hp → VK → Prop} (h : ta σ H fun x H1 => r x H1 Q) : tUn r ta σ H Q := h
theorem w_rI0 {f : Int → Int → V} {a b : Int} (q : Q (f a b) H) : rI0 f (.int a) (.int b) H Q := ⟨a, b, rfl, rfl, q⟩
theorem w_rI {C : Int → Int → Prop} {f : Int → Int → V} {a b : Int} (c : C a b) (q : Q (f a b) H) : rI C f (.int a) (.int b) H Q := ⟨a, b, rfl, rfl, c, q⟩
theorem w_rU {f : Int → V} {a : Int} (q : Q (f a) H) : rU f (.int a) H Q := ⟨a, rfl, q⟩
theorem w_rEq (c : scal x y = true) (q : Q (.bl (decide (x = y))) H) : rEq x y H Q := ⟨c, q⟩
theorem w_rNe (c : scal x y = true) (q : Q (.bl (!decide (x = y))) H) : rNe x y H Q := ⟨c, q⟩
theorem w_rEqI {a b : Int} (q : Q (.bl (decide (a = b))) H) : rEq (.int a) (.int b) H Q := ⟨rfl, by
  rw [show decide (V.int a = V.int b) = decide (a = b) by simp]; exact q⟩
theorem w_rNeI {a b : Int} (q : Q (.bl (!decide (a = b))) H) : rNe (.int a) (.int b) H Q := ⟨rfl, by
  rw [show decide (V.int a = V.int b) = decide (a = b) by simp]; exact q⟩
theorem w_ixL {xs : List V} {k : Int} (h : SqL K H p xs) (a : atI xs k = some v) (q : Q v H) : rIxL K (.ref p) (.int k) H Q := ⟨p, xs, k, v, rfl, rfl, h, a, q⟩
theorem w_ixT {xs : List V} {k : Int} (h : SqT K H p xs) (a : atI xs k = some v) (q : Q v H) : rIxT K (.ref p) (.int k) H Q := ⟨p, xs, k, v, rfl, rfl, h, a, q⟩
theorem w_start (e : σ = σ') (h : t D σ' H) : t D σ H := by rw [e]; exact h
theorem w_seq (h : t { D with nx := u D } σ H) : tSeq t u D σ H := h
theorem w_next (h : D.nx σ H) : tNext D σ H := h
theorem w_break (h : D.bk σ H) : tBreak D σ H := h
theorem w_cont (h : D.ct σ H) : tCont D σ H := h
theorem w_drop (h : te σ H fun _ H1 => D.nx σ H1) : tDrop te D σ H := h
theorem w_ret (h : te σ H D.rt) : tRet te D σ H := h
theorem w_asg (h : te σ H fun x H1 => g x σ H1 D.nx) : tAsg te g D σ H := h
theorem w_gname {R : L2.St → Hp → Prop} (e : σ.set i (some v) = σ') (h : R σ' H) : gName i v σ H R := by rw [← e] at h; exact h
theorem w_ifs (h : tt σ H fun b H1 => if b = true then t D σ H1 else u D σ H1) : tIfS tt t u D σ H := h
theorem w_test {R : Bool → Hp → Prop} (h : te σ H fun x H1 => ∃ k, x = .bl k ∧ R k H1) : tTest te σ H R := h
theorem w_B {R : Bool → Hp → Prop} (h : te σ H fun x H1 => ∃ k, x = .bl k ∧ R k H1) : tB te σ H R := h
theorem w_bl {k : Bool} {R : Bool → Prop} (h : R k) : ∃ c, V.bl k = V.bl c ∧ R c := ⟨k, rfl, h⟩
theorem w_tand {R : Bool → Hp → Prop} (h : tt σ H fun c H1 => if c = true then tu σ H1 R else R false H1) : tAnd tt tu σ H R := h
theorem w_tor {R : Bool → Hp → Prop} (h : tt σ H fun c H1 => if c = true then R true H1 else tu σ H1 R) : tOr tt tu σ H R := h
theorem w_tnot {R : Bool → Hp → Prop} (h : tt σ H fun c H1 => R (!c) H1) : tNot tt σ H R := h
theorem w_andV (h : ta σ H fun x H1 => ∃ c, x = .bl c ∧ if c = true then tb σ H1 Q else Q (.bl false) H1) : tAndV ta tb σ H Q := h
theorem w_orV (h : ta σ H fun x H1 => ∃ c, x = .bl c ∧ if c = true then Q (.bl true) H1 else tb σ H1 Q) : tOrV ta tb σ H Q := h
theorem w_notV (h : ta σ H fun x H1 => ∃ c, x = .bl c ∧ Q (.bl (!c)) H1) : tNotV ta σ H Q := h
theorem w_ifV (h : tt σ H fun c H1 => if c = true then ta σ H1 Q else tb σ H1 Q) : tIf tt ta tb σ H Q := h
theorem w_nil {R : List V → Hp → Prop} (h : R [] H) : tNil σ H R := h
theorem w_cons {tr : TA} {R : List V → Hp → Prop} (h : ta σ H fun x H1 => tr σ H1 fun xs H2 => R (x :: xs) H2) : tCons ta tr σ H R := h
theorem w_cb {r : List V → Hp → VK → Prop} {tl : TA} (h : tl σ H fun vs H1 => r vs H1 Q) : tCB r tl σ H Q := h
theorem w_call {sp : Sp} {dvs : List V} {E : XK} {tl : TA} (h : tl σ H fun vs H1 => sp (vs ++ dvs) H1 Q E) : tCall sp dvs E tl σ H Q := h
theorem w_call0 {sp : Sp} {E : XK} {tl : TA} (h : tl σ H fun vs H1 => sp vs H1 Q E) : tCall sp [] E tl σ H Q := by
  unfold tCall
  simp only [List.append_nil]
  exact h
theorem w_tup {tl : TA} (h : tl σ H fun xs H1 => xs.length ≤ sizeLine ∧ ∀ p, H1 p = none → Q (.ref p) (upd H1 p (.tup xs))) : tTup tl σ H Q := h
theorem w_lst {tl : TA} (h : tl σ H fun xs H1 => xs.length ≤ sizeLine ∧ ∀ p, H1 p = none → Q (.ref p) (upd H1 p (.lst xs))) : tLst tl σ H Q := h
def par2 (a b : Nat) (vs : List V) (σ : L2.St) (H : Hp) (R : L2.St → Hp → Prop) : Prop := ∃ v w, vs = [v, w] ∧ R ((σ.set a (some v)).set b (some w)) H
theorem w_par {a b : Nat} {tl : TA} (h : tl σ H fun vs H1 => par2 a b vs σ H1 D.nx) : tPar a b tl D σ H := h
theorem w_par2 {a b : Nat} {v w : V} {R : L2.St → Hp → Prop} (e : (σ.set a (some v)).set b (some w) = σ') (h : R σ' H) : par2 a b [v, w] σ H R := ⟨v, w, rfl, by rw [e]; exact h⟩
theorem w_gtup {n : Nat} {gs : TGs} {xs : List V} {R : L2.St → Hp → Prop} (h : SqT K H p xs) (l : xs.length = n) (q : gs xs σ H R) : gTup K n gs (.ref p) σ H R := ⟨p, xs, rfl, h, l, q⟩
theorem w_gcons {gs : TGs} {vs : List V} {R : L2.St → Hp → Prop} (h : g v σ H fun σ' H' => gs vs σ' H' R) : gCons g gs (v :: vs) σ H R := ⟨v, vs, rfl, h⟩
theorem w_gnil {R : L2.St → Hp → Prop} (h : R σ H) : gNil [] σ H R := ⟨rfl, h⟩
theorem w_gsub {to ti : TE} {ts : TSet} {R : L2.St → Hp → Prop} (h : to σ H fun o H1 => ti σ H1 fun i H2 => ts o i v H2 fun H3 => R σ H3) : gSub to ti ts v σ H R := h
theorem w_setL {xs : List V} {k : Int} {j : Nat} {R : Hp → Prop} (h : H p = some (.lst xs)) (e : ixN xs.length k = some j) (q : R (upd H p (.lst (xs.set j v)))) : rSetL (.ref p) (.int k) v H R := ⟨p, xs, k, j, rfl, rfl, h, e, q⟩
theorem w_rng1 {tl : TA} {R : It → Hp → Prop} (h : tl σ H fun vs H1 => ∃ j : Int, vs = [.int j] ∧ -(2 ^ 62) ≤ j ∧ j < 2 ^ 62 ∧ R (Itr 0 j.toNat) H1) : iRng1 tl σ H R := h
theorem w_rng1' {j : Int} {R : It → Prop} (h1 : -(2 ^ 62) ≤ j) (h2 : j < 2 ^ 62) (h : R (Itr 0 j.toNat)) : ∃ k : Int, [V.int j] = [.int k] ∧ -(2 ^ 62) ≤ k ∧ k < 2 ^ 62 ∧ R (Itr 0 k.toNat) := ⟨j, rfl, h1, h2, h⟩
theorem w_for {wi : TI} {tb' : TS} (h : wi σ H fun J H1 => ∃ W : Nat → Nat → L2.St → Hp → Prop, (∃ m, W 0 m σ H1) ∧ ∀ i m σ H, W i m σ H →
  (J.stop i H ∧ D.nx σ H) ∨ (J.go i H ∧ ∃ N : L2.St → Hp → Prop, (∀ σ' H', N σ' H' → ∃ m', m' < m ∧ W (i + 1) m' σ' H') ∧ ∀ x H', J.yld i H x H' → g x σ H' fun σ2 H2 => tb' { D with nx := N, ct := N, bk := D.nx } σ2 H2)) : tFor wi g tb' D σ H := h
theorem w_bits (h : te σ H fun x H1 => ∃ i, x = .int i ∧ Q (.int (Builtin.Int.intBits i : Nat)) H1) : tBits te σ H Q := h
theorem w_ex1 {a : Int} {R : Int → Prop} (h : R a) : ∃ i, V.int a = V.int i ∧ R i := ⟨a, rfl, h⟩
theorem w_exl {xs : List V} {R : List V → Prop} (h : R xs) : ∃ ys, xs = ys ∧ R ys := ⟨xs, rfl, h⟩
theorem sz4 {n : Nat} (h : n ≤ 1000) : n ≤ sizeLine := Nat.le_trans h (by decide)
theorem w_ixH {xs : List V} {k : Int} (h : H p = some (.lst xs)) (a : atI xs k = some v) (q : Q v H) : rIxL K (.ref p) (.int k) H Q := ⟨p, xs, k, v, rfl, rfl, .inl (.inl h), a, q⟩
theorem w_ixTH {xs : List V} {k : Int} (h : H p = some (.tup xs)) (a : atI xs k = some v) (q : Q v H) : rIxT K (.ref p) (.int k) H Q := ⟨p, xs, k, v, rfl, rfl, .inl (.inl h), a, q⟩
theorem w_gtupH {n : Nat} {gs : TGs} {xs : List V} {R : L2.St → Hp → Prop} (h : H p = some (.tup xs)) (l : xs.length = n) (q : gs xs σ H R) : gTup K n gs (.ref p) σ H R := ⟨p, xs, rfl, .inl (.inl h), l, q⟩
theorem w_setLu {xs ys : List V} {k : Int} {j : Nat} {R : Hp → Prop} {H0 : Hp} (e : ixN xs.length k = some j) (e2 : xs.set j v = ys) (q : R (upd H0 p (.lst ys))) : rSetL (.ref p) (.int k) v (upd H0 p (.lst xs)) R := ⟨p, xs, k, j, rfl, rfl, upd_same, e, by rw [upd_upd, e2]; exact q⟩
theorem w_setLh {xs ys : List V} {k : Int} {j : Nat} {R : Hp → Prop} (h : H p = some (.lst xs)) (e : ixN xs.length k = some j) (e2 : xs.set j v = ys) (q : R (upd H p (.lst ys))) : rSetL (.ref p) (.int k) v H R := ⟨p, xs, k, j, rfl, rfl, h, e, by rw [e2]; exact q⟩
theorem w_lenL {xs : List V} {R : V → Prop} (h : SqL K H p xs) (q : R (.int xs.length)) : ∃ a ys, [V.ref p] = [.ref a] ∧ (SqL K H a ys ∨ SqT K H a ys) ∧ R (.int ys.length) := ⟨p, xs, rfl, .inl h, q⟩
theorem w_lenT {xs : List V} {R : V → Prop} (h : SqT K H p xs) (q : R (.int xs.length)) : ∃ a ys, [V.ref p] = [.ref a] ∧ (SqL K H a ys ∨ SqT K H a ys) ∧ R (.int ys.length) := ⟨p, xs, rfl, .inr h, q⟩
theorem upd_skip {a b : Addr} {o : HO} {u : Option HO} (h : a ≠ b) (e : H a = u) : (upd H b o) a = u := by rw [upd_ne h]; exact e
section
variable {c A B : Prop} [Decidable c]
theorem w_ite (h1 : c → A) (h2 : ¬ c → B) : if decide c = true then A else B := by
  by_cases h : c
  · rw [if_pos (decide_eq_true h)]; exact h1 h
  · rw [if_neg (fun z => h (of_decide_eq_true z))]; exact h2 h
theorem w_iteN (h1 : ¬ c → A) (h2 : c → B) : if (!decide c) = true then A else B := by
  by_cases h : c
  · rw [decide_eq_true h]; exact h2 h
  · rw [decide_eq_false h]; exact h1 h
theorem w_iteT (h : c) (q : A) : if decide c = true then A else B := by rw [if_pos (decide_eq_true h)]; exact q
theorem w_iteF (h : ¬ c) (q : B) : if decide c = true then A else B := by rw [if_neg (fun z => h (of_decide_eq_true z))]; exact q
theorem w_iteNT (h : ¬ c) (q : A) : if (!decide c) = true then A else B := by rw [decide_eq_false h]; exact q
theorem w_iteNF (h : c) (q : B) : if (!decide c) = true then A else B := by rw [decide_eq_true h]; exact q
theorem w_iteb {k : Bool} (h1 : k = true → A) (h2 : k = false → B) : if k = true then A else B := by
  cases k with
  | true => exact h1 rfl
  | false => exact h2 rfl
theorem w_ibT (q : A) : if true = true then A else B := q
theorem w_ibF (q : B) : if false = true then A else B := q
theorem w_ibNT (q : A) : if (!false) = true then A else B := q
theorem w_ibNF (q : B) : if (!true) = true then A else B := q
end
theorem upd_fresh {a b : Addr} {o : HO} (h : H a = none) (h' : H b = some o) {u : HO} (hu : upd H b u a = none) : True := trivial
theorem fresh_of {a b : Addr} {u : HO} (h : (upd H b u) a = none) : a ≠ b ∧ H a = none := by
  by_cases e : a = b
  · subst e; rw [upd_same] at h; cases h
  · rw [upd_ne e] at h; exact ⟨e, h⟩
theorem pick {ns : List Int} {k : Int} (h0 : 0 ≤ k) (h : k < ns.length) : ∃ z, atI (ns.map V.int) k = some (.int z) ∧ z ∈ ns := by
  obtain ⟨j, rfl⟩ := Int.eq_ofNat_of_zero_le h0
  have hj : j < ns.length := by omega
  refine ⟨ns[j], atI_nat (j := j) ?_, List.getElem_mem hj⟩
  rw [List.getElem?_map, List.getElem?_eq_getElem hj]
  rfl
theorem w_isi {c x : V} {ty u : Value} {b : Bool} (hc : ClsV c u) (ht : TyX K H x ty) (e : PySem.W.kitOne K ty u = some b) (q : Q (.bl b) H) : rIsi K [x, c] H Q := ⟨x, c, ty, u, b, rfl, hc, ht, e, q⟩
theorem w_isi_ii {a : Int} (q : Q (.bl true) H) : rIsi K [.int a, .ty "int"] H Q := w_isi (.ty _) (.base (.int _)) (kit_ty (by decide +kernel)) q
theorem w_isi_ib {a : Int} (q : Q (.bl false) H) : rIsi K [.int a, .ty "bool"] H Q := w_isi (.ty _) (.base (.int _)) (kit_ty (by decide +kernel)) q
theorem w_isi_bb {a : Bool} (q : Q (.bl true) H) : rIsi K [.bl a, .ty "bool"] H Q := w_isi (.ty _) (.base (.bl _)) (kit_ty (by decide +kernel)) q
theorem w_isi_bi {a : Bool} (q : Q (.bl true) H) : rIsi K [.bl a, .ty "int"] H Q := w_isi (.ty _) (.base (.bl _)) (kit_ty (by decide +kernel)) q
theorem w_isi_ss {a : Str} (q : Q (.bl true) H) : rIsi K [.str a, .ty "str"] H Q := w_isi (.ty _) (.base (.str _)) (kit_ty (by decide +kernel)) q
theorem w_isi_is {a : Int} (q : Q (.bl false) H) : rIsi K [.int a, .ty "str"] H Q := w_isi (.ty _) (.base (.int _)) (kit_ty (by decide +kernel)) q
theorem w_isi_tt {xs : List V} (h : H p = some (.tup xs)) (q : Q (.bl true) H) : rIsi K [.ref p, .ty "tuple"] H Q := w_isi (.ty _) (.base (.tup h)) (kit_ty (by decide +kernel)) q
theorem w_isi_tl {xs : List V} (h : H p = some (.tup xs)) (q : Q (.bl false) H) : rIsi K [.ref p, .ty "list"] H Q := w_isi (.ty _) (.base (.tup h)) (kit_ty (by decide +kernel)) q
theorem w_isi_ll {xs : List V} (h : H p = some (.lst xs)) (q : Q (.bl true) H) : rIsi K [.ref p, .ty "list"] H Q := w_isi (.ty _) (.base (.lst h)) (kit_ty (by decide +kernel)) q
theorem w_isi_lt {xs : List V} (h : H p = some (.lst xs)) (q : Q (.bl false) H) : rIsi K [.ref p, .ty "tuple"] H Q := w_isi (.ty _) (.base (.lst h)) (kit_ty (by decide +kernel)) q
theorem w_isi_ti {xs : List V} (h : H p = some (.tup xs)) (q : Q (.bl false) H) : rIsi K [.ref p, .ty "int"] H Q := w_isi (.ty _) (.base (.tup h)) (kit_ty (by decide +kernel)) q
theorem w_isi_tb {xs : List V} (h : H p = some (.tup xs)) (q : Q (.bl false) H) : rIsi K [.ref p, .ty "bool"] H Q := w_isi (.ty _) (.base (.tup h)) (kit_ty (by decide +kernel)) q
theorem w_isi_ts {xs : List V} (h : H p = some (.tup xs)) (q : Q (.bl false) H) : rIsi K [.ref p, .ty "str"] H Q := w_isi (.ty _) (.base (.tup h)) (kit_ty (by decide +kernel)) q
theorem w_isi_li {xs : List V} (h : H p = some (.lst xs)) (q : Q (.bl false) H) : rIsi K [.ref p, .ty "int"] H Q := w_isi (.ty _) (.base (.lst h)) (kit_ty (by decide +kernel)) q
theorem w_isi_lb {xs : List V} (h : H p = some (.lst xs)) (q : Q (.bl false) H) : rIsi K [.ref p, .ty "bool"] H Q := w_isi (.ty _) (.base (.lst h)) (kit_ty (by decide +kernel)) q
theorem w_isi_ls {xs : List V} (h : H p = some (.lst xs)) (q : Q (.bl false) H) : rIsi K [.ref p, .ty "str"] H Q := w_isi (.ty _) (.base (.lst h)) (kit_ty (by decide +kernel)) q
theorem w_gcd {a b : Int} (q : Q (.int (Nat.gcd a.natAbs b.natAbs : Nat)) H) : rGcd [.int a, .int b] H Q := ⟨a, b, rfl, q⟩
theorem w_callN {n m : Nat} {sp : Sp} {gV : List V → List V → List V} {E : XK} {t1 t2 : TA} (h : t1 σ H fun vs H1 => t2 σ H1 fun zs H2 => vs.length = n ∧ zs.length = m ∧ sp (gV vs zs) H2 Q E) : tCallN n m sp gV E t1 t2 σ H Q := h
theorem w_callS {sp : Sp} {E : L2.St → XK} {t1 : TA} (h : t1 σ H fun vs H1 => sp vs H1 Q (E σ)) : tCallS sp E t1 σ H Q := h
theorem same_of {H H' : Hp} {p : Addr} {o : HO} (s : Same H H') (n : H' p = none) : Same H (upd H' p o) := fun b x e => by
  rw [upd_ne (ne_of_none (s b x e) n)]
  exact s b x e
theorem same_mut {H H' : Hp} {p : Addr} {o : HO} (s : Same H H') (n : H p = none) : Same H (upd H' p o) := fun b x e => by
  rw [upd_ne (ne_of_none e n)]
  exact s b x e
theorem w_dnew (h : ∀ d, H d = none → Q (.ref d) (upd H d (.dK []))) : tDNewK σ H Q := h
theorem w_dput {td ty tv : TE} (h : tv σ H fun v H1 => td σ H1 fun x H2 => ty σ H2 fun y H3 => ∃ a H4, x = .ref a ∧ DPut H3 a y v H4 ∧ D.nx σ H4) : sDPut td ty tv D σ H := h
theorem w_din {ty td : TE} (h : ty σ H fun y H1 => td σ H1 fun x H2 => ∃ a o, x = .ref a ∧ DGet H2 a y o ∧ Q (.bl o.isSome) H2) : tDIn ty td σ H Q := h
theorem w_dnin {ty td : TE} (h : ty σ H fun y H1 => td σ H1 fun x H2 => ∃ a o, x = .ref a ∧ DGet H2 a y o ∧ Q (.bl (!o.isSome)) H2) : tDNotIn ty td σ H Q := h
theorem w_iTup {tl : TE} {R : It → Hp → Prop} (h : tl σ H fun x H1 => ∃ a, x = .ref a ∧ (∃ xs, SqT K H1 a xs) ∧ R (Itt K a) H1) : iTup K tl σ H R := h
theorem w_iList {tl : TE} {R : It → Hp → Prop} (h : tl σ H fun x H1 => ∃ a, x = .ref a ∧ (∃ xs, SqL K H1 a xs) ∧ R (Itl K a) H1) : iList K tl σ H R := h
theorem w_lc {wi : TI} {ivs : List Nat} (h : wi σ H fun J H1 => ∀ Dl, H1 Dl = none → ∃ W : Nat → Nat → Hp → Prop, (∃ m, W 0 m (upd H1 Dl (.lst []))) ∧ ∀ i m H, W i m H →
  (J.stop i H ∧ Q (.ref Dl) H) ∨ (J.go i H ∧ ∃ Nx : Hp → Prop, (∀ H', Nx H' → ∃ m', m' < m ∧ W (i + 1) m' H') ∧ ∀ x H', J.yld i H x H' → g x (wipe σ ivs) H' fun σ2 H2 => wipe σ2 ivs = wipe σ ivs ∧ tt σ2 H2 fun b H3 =>
    if b = true then te σ2 H3 fun y H4 => ∃ acc, H4 Dl = some (.lst acc) ∧ acc.length < sizeLine ∧ Nx (upd H4 Dl (.lst (acc ++ [y]))) else Nx H3)) : tLc wi g tt te ivs σ H Q := h
theorem w_yes {R : Bool → Hp → Prop} (h : R true H) : tYes σ H R := h
theorem w_opin {neg : Bool} {xs : List V} (hs : SqL K H p xs ∨ SqT K H p xs) (hx : flatV x = true) (ha : xs.all flatV = true) (q : Q (.bl (if neg then !inV x xs else inV x xs)) H) : rIn K neg x (.ref p) H Q := ⟨p, xs, rfl, hs, hx, ha, q⟩
theorem w_isN (q : Q (.bl (decide (x = .non))) H) : (V.non = V.non ∧ Q (.bl (decide (x = .non))) H) := ⟨rfl, q⟩
theorem w_bm {T : String} {r : V → List V → Hp → VK → Prop} {to : TE} {tl : TA} (h : to σ H fun x H1 => tyV K T x H1 ∧ tl σ H1 fun xs H2 => r x xs H2 Q) : tBM K T r to tl σ H Q := h
theorem w_tyL {xs : List V} {R : Prop} (h : H p = some (.lst xs)) (q : R) : tyV K "list" (.ref p) H ∧ R := ⟨Or.inl ⟨rfl, xs, .inl (.inl h)⟩, q⟩
theorem w_app {xs : List V} (h : H p = some (.lst xs)) (l : xs.length < 100000) (q : Q .non (upd H p (.lst (xs ++ [v])))) : rAppend (.ref p) [v] H Q := ⟨p, xs, v, rfl, rfl, h, Nat.lt_of_lt_of_le l (by decide), q⟩
theorem w_bm0 {T : String} {r : V → List V → Hp → VK → Prop} {to : TE} (h : to σ H fun x H1 => tyV K T x H1 ∧ r x [] H1 Q) : tBM0 K T r to σ H Q := h
theorem w_rev {xs : List V} (h : H p = some (.lst xs)) (q : Q .non (upd H p (.lst xs.reverse))) : rReverse (.ref p) [] H Q := ⟨p, xs, rfl, rfl, h, q⟩
/-- pools -/
def IsPool (o : HO) : Prop := ∃ (c k : Int) (b : Bool) (s : Int), o = .lst [.int c, .int k, .bl b, .int s]
theorem upd_of {a b : Addr} {o : HO} (h : H b = none) {u : HO} (e : H a = some u) : (upd H b o) a = some u := by rw [upd_ne (ne_of_none e h)]; exact e
end Z
local macro_rules | `(tactic| walk_at "sz") => `(tactic| first | omega | (split <;> omega) | ((repeat' split) <;> omega) | (simp only [List.length_map]; (repeat' split) <;> omega))
local macro_rules | `(tactic| walk_at "hp") => `(tactic| first
  | assumption
  | exact L2.upd_same
  | ((refine' Z.upd_of ?h1 ?h2); (case h1 => assumption); (case h2 => walk_at "hp"))
  | ((refine' Z.upd_skip ?h1 ?h2); (case h1 => first | assumption | (apply Ne.symm; assumption)); (case h2 => walk_at "hp")))
local macro_rules | `(tactic| walk_at "cond") => `(tactic| first
  | exact L2.wide_mul (a := 200) (b := 200) (by omega) (by omega) (by decide) (by decide) (by decide)
  | exact L2.wide_div (b := 200) (by omega) (by omega) (by decide) (by decide)
  | exact ⟨by omega, by omega⟩
  | omega
  | exact (show (0 : Int) < _ by omega)
  | exact Or.inl ⟨by omega, by omega⟩
  | exact Or.inr ⟨by omega, by omega⟩
  | exact ⟨by omega, by omega, by decide⟩)
local macro_rules | `(tactic| walk_at "same") => `(tactic| first
  | assumption
  | exact L2.Same.refl _
  | (refine Z.same_of ?_ (by assumption); walk_at "same")
  | (refine Z.same_mut ?_ (by assumption); walk_at "same")
  | exact L2.Same.trans (by assumption) (by walk_at "same"))
local macro_rules | `(tactic| walk_at "seq") => `(tactic| first
  | assumption
  | (refine Or.inl (Or.inl ?_); walk_at "hp")
  | ((refine' L2.Same.seq ?se ?sh); (case sh => assumption); (case se => walk_at "same"))
  | ((refine' Evl.ex_t ?se ?sh); (case sh => assumption); (case se => walk_at "same")))
local macro_rules | `(tactic| walk_at "ar") => `(tactic| first
  | omega
  | (simp only [List.length_map, List.length_cons, List.length_nil]; omega))
local macro_rules | `(tactic| walk_at "w1") => `(tactic| first
  | with_reducible refine Z.w_seq ?_
  | with_reducible refine Z.w_asg ?_
  | with_reducible refine Z.w_op ?_
  | ((with_reducible refine' Z.w_var ?wv ?_); case wv => exact rfl)
  | with_reducible refine Z.w_c ?_
  | with_reducible refine Z.w_rI0 ?_
  | ((with_reducible refine' Z.w_gname ?we ?_); case we => (simp only [List.set_cons_zero, List.set_cons_succ] <;> rfl))
  | with_reducible refine Z.w_cons ?_
  | with_reducible refine Z.w_nil ?_
  | with_reducible refine Z.w_ifs ?_
  | with_reducible refine Z.w_test ?_
  | with_reducible refine Z.w_B ?_
  | with_reducible refine Z.w_bl ?_
  | with_reducible refine Z.w_rEqI ?_
  | with_reducible refine Z.w_rNeI ?_
  | with_reducible refine Z.w_cb ?_
  | with_reducible refine Z.w_call0 ?_
  | with_reducible refine Z.w_call ?_
  | with_reducible refine Z.w_isi_ii ?_
  | with_reducible refine Z.w_isi_ib ?_
  | with_reducible refine Z.w_isi_bb ?_
  | with_reducible refine Z.w_isi_bi ?_
  | with_reducible refine Z.w_isi_ss ?_
  | with_reducible refine Z.w_isi_is ?_
  | ((with_reducible refine' Z.w_isi_tt ?wh ?_); (case wh => walk_at "hp"))
  | ((with_reducible refine' Z.w_isi_tl ?wh ?_); (case wh => walk_at "hp"))
  | ((with_reducible refine' Z.w_isi_ll ?wh ?_); (case wh => walk_at "hp"))
  | ((with_reducible refine' Z.w_isi_lt ?wh ?_); (case wh => walk_at "hp"))
  | ((with_reducible refine' Z.w_isi_ti ?wh ?_); (case wh => walk_at "hp"))
  | ((with_reducible refine' Z.w_isi_tb ?wh ?_); (case wh => walk_at "hp"))
  | ((with_reducible refine' Z.w_isi_ts ?wh ?_); (case wh => walk_at "hp"))
  | ((with_reducible refine' Z.w_isi_li ?wh ?_); (case wh => walk_at "hp"))
  | ((with_reducible refine' Z.w_isi_lb ?wh ?_); (case wh => walk_at "hp"))
  | ((with_reducible refine' Z.w_isi_ls ?wh ?_); (case wh => walk_at "hp"))
  | with_reducible refine Z.w_tand ?_
  | with_reducible refine Z.w_tor ?_
  | with_reducible refine Z.w_tnot ?_
  | with_reducible refine Z.w_ret ?_
  | with_reducible refine Z.w_next ?_
  | with_reducible refine Z.w_un ?_
  | with_reducible refine Z.w_rU ?_
  | with_reducible refine Z.w_tup ?_
  | with_reducible refine Z.w_lst ?_
  | with_reducible refine Z.w_par ?_
  | ((with_reducible refine' Z.w_par2 ?we ?_); case we => (simp only [List.set_cons_zero, List.set_cons_succ] <;> rfl))
  | with_reducible refine Z.w_gsub ?_
  | with_reducible refine Z.w_andV ?_
  | with_reducible refine Z.w_orV ?_
  | with_reducible refine Z.w_notV ?_
  | with_reducible refine Z.w_ifV ?_
  | with_reducible refine Z.w_drop ?_
  | with_reducible refine Z.w_break ?_
  | with_reducible refine Z.w_cont ?_
  | with_reducible refine Z.w_gcons ?_
  | with_reducible refine Z.w_gnil ?_
  | with_reducible refine Z.w_for ?_
  | with_reducible refine Z.w_rng1 ?_
  | with_reducible refine Z.w_bits ?_
  | with_reducible refine Z.w_callN ?_
  | with_reducible refine Z.w_callS ?_
  | with_reducible refine Z.w_gcd ?_
  | with_reducible refine Z.w_dnew (fun d hd => ?_)
  | with_reducible refine Z.w_dput ?_
  | with_reducible refine Z.w_din ?_
  | with_reducible refine Z.w_dnin ?_
  | with_reducible refine Z.w_iTup ?_
  | with_reducible refine Z.w_iList ?_
  | with_reducible refine Z.w_lc ?_
  | with_reducible refine Z.w_yes ?_
  | ((with_reducible refine' ⟨_, rfl, ⟨_, ?wh⟩, ?_⟩); (case wh => walk_at "seq"))
  | with_reducible refine Z.w_ex1 ?_
  | ((with_reducible refine' Z.w_ixH ?wh ?wa ?_); (case wh => walk_at "hp"); (case wa => exact rfl))
  | ((with_reducible refine' Z.w_ixTH ?wh ?wa ?_); (case wh => walk_at "hp"); (case wa => exact rfl))
  | ((with_reducible refine' Z.w_gtupH ?wh ?wa ?_); (case wh => walk_at "hp"); (case wa => exact rfl))
  | ((with_reducible refine' Z.w_setLu ?wh ?wa ?_); (case wh => exact rfl); (case wa => (simp only [Int.reduceToNat, List.set_cons_zero, List.set_cons_succ] <;> rfl)))
  | ((with_reducible refine' Z.w_setLh ?wg ?wh ?wa ?_); (case wg => walk_at "hp"); (case wh => exact rfl); (case wa => (simp only [Int.reduceToNat, List.set_cons_zero, List.set_cons_succ] <;> rfl)))
  | ((with_reducible refine Z.w_rI ?wc ?_); (case wc => walk_at "cond"))
  | with_reducible refine Or.inl ⟨_, rfl, ?_⟩
  | with_reducible refine Or.inr ⟨_, rfl, ?_⟩
  | ((with_reducible refine' ⟨_, _, rfl, Or.inl ?wh, ?_⟩); (case wh => walk_at "seq"))
  | ((with_reducible refine' ⟨_, _, rfl, Or.inr ?wh, ?_⟩); (case wh => walk_at "seq"))
  | ((with_reducible refine' Z.w_ixL ?wh ?wa ?_); (case wh => assumption); (case wa => assumption))
  | with_reducible refine ⟨_, rfl, ?_⟩
  | with_reducible refine ⟨_, _, rfl, ?_⟩
  | ((with_reducible refine ⟨?wl, fun q hq' => ?_⟩); (case wl => exact Z.sz4 (by simp)))
  | with_reducible refine Z.w_ibT ?_
  | with_reducible refine Z.w_ibF ?_
  | with_reducible refine Z.w_ibNT ?_
  | with_reducible refine Z.w_ibNF ?_
  | ((with_reducible refine Z.w_iteT ?wh ?_); (case wh => walk_at "ar"))
  | ((with_reducible refine Z.w_iteF ?wh ?_); (case wh => walk_at "ar"))
  | ((with_reducible refine Z.w_iteNT ?wh ?_); (case wh => walk_at "ar"))
  | ((with_reducible refine Z.w_iteNF ?wh ?_); (case wh => walk_at "ar"))
  | with_reducible refine ⟨rfl, ?_⟩
  | ((with_reducible refine' Z.w_ixH ?wh ?wa ?_); (case wh => walk_at "hp"); (case wa => assumption))
  | ((with_reducible refine' Z.w_ixTH ?wh ?wa ?_); (case wh => walk_at "hp"); (case wa => assumption))
  | ((with_reducible refine' Z.w_ixL ?wh ?wa ?_); (case wh => walk_at "seq"); (case wa => assumption))
  | ((with_reducible refine' Z.w_ixT ?wh ?wa ?_); (case wh => walk_at "seq"); (case wa => assumption))
  | ((with_reducible refine Z.w_iteF ?wh ?_); (case wh => (intro h; cases h; done)))
  | ((with_reducible refine Z.w_iteT ?wh ?_); (case wh => exact rfl))
  | fail "w1")
local macro_rules | `(tactic| walk_at "wi") => `(tactic| first
  | with_reducible refine Z.w_ite (fun hc => ?_) (fun hc => ?_)
  | with_reducible refine Z.w_iteN (fun hc => ?_) (fun hc => ?_)
  | with_reducible refine Z.w_iteb (fun hc => ?_) (fun hc => ?_))
local macro_rules | `(tactic| walk_at "w") => `(tactic| repeat' walk_at "w1")
namespace X2
open PySem PySem.Spec PyProof.Rows L2
/-! exceptions of own classes over an own base, with an __init__ that calls the base's and keeps one field -/
/-- what the text leaves of such a class C, its __init__ at fI, its field n -/
structure XO (K : PySem.W.Frag) (C fI : Addr) (n : Str) : Prop where
  ox : OexC K C
  xc : ExcC K C
  no : PySem.W.findIn K (.ref C) n = some none
  ii : PySem.W.findIn K (.ref C) "__init__" = some (some (.ref fI))
  ti : PySem.W.typeIn K (.ref fI) = some (.type "function")
theorem XO.xf {K : PySem.W.Frag} {C fI : Addr} {n : Str} (T : XO K C fI n) : XfC K C := ⟨T.xc.hg, T.xc.hk, T.xc.hs, T.xc.hd⟩
/-- the base B, whose __init__ is ValueError's -/
structure XB (K : PySem.W.Frag) (B : Addr) : Prop where
  rd : PySem.W.readsIn K B (.type "type") = true
  ga : PySem.W.specialIn K (.ref B) "__getattribute__" = some (some (.builtin "type.__getattribute__"))
  vi : PySem.W.findCls K (.ref B) (.type "type") "__init__" = some (.val (.builtin "ValueError.__init__"))
section
variable {X : Cx} {e : Expr} {es : List Expr} {ta : TA} {p1 p2 pos : Pos} {x : Str} {B : Addr}
/-- B.__init__(self, ..) -/
theorem pe_binit {pl : Sem Bool} (hg : Gl X x) (hm : X.mg x = some (.ref B)) (T : XB X.K B) (ha : PA X (e :: es) ta)
    (hdb : (x == ("__debug__" : Str)) = false := by decide)
    (hc : eval (.Call (.Attribute (.Name x p1) "__init__" p2) (e :: es) [] pos) X.env = (do
      let bv ← eval (.Name x p1) X.env
      standAt p2.atName
      let (fn, fst) ← holding [bv] (getMethod bv "__init__" pl)
      callWith pos fn fst (backTo pos (starEach (e :: es) X.env)) (backToKw pos (keywordEach [] X.env))) := by rfl)
    (he : starEach (e :: es) X.env = (false, eval e X.env) :: starEach es X.env := by rfl) (hpl : (backTo pos (starEach es X.env)).any (·.1) = false := by rfl) :
    PE X (.Call (.Attribute (.Name x p1) "__init__" p2) (e :: es) [] pos) (tVeI X.K ta) := by
  refine ⟨fun pins s σ H Q I h => ?_⟩
  refine PySem.W.methodCall_KW (ld_glob I hg hm ?_ hdb) hc
  refine PySem.W.method_cls I.kIn T.ga (PySem.W.cls_value I.kIn T.rd T.vi (by decide +kernel) ?_)
  show wpAny _ _ (callWith pos (Value.builtin "ValueError.__init__") [] (backTo pos (starEach (e :: es) X.env)) []) _ _ _
  refine PyProof.Rows.callWith_method1 (thn (ha.run pos pins _ σ H _ (I.tok _) h) fun us s1 hh => ?_) he hpl
  obtain ⟨vs, H1, I1, r1, a, C, ws, ev, hl, TC, ea, q⟩ := hh
  subst ev
  cases r1 with
  | @cons _ u0 _ ur ra rw' =>
    obtain rfl : u0 = Value.ref a := ra
    have hz : ur.length ≤ sizeLine := by
      rw [← Paired.length rw', sizeLine_eq]
      omega
    exact oinit_ok TC I1 ea hz fun s' J => ⟨.non, H1, J, rfl, q⟩
end
/-- isinstance(e, c), e the exception that the suite holds, with or without a dict -/
def hasD (H : Hp) (d : Option Addr) : Prop := d = none ∨ ∃ dd fs, d = some dd ∧ H dd = some (.xd fs)
def rIsX1 (K : PySem.W.Frag) (a : Addr) (cls : Value) (d : Option Addr) : List V → Hp → VK → Prop := fun xs H Q => ∃ (D : Addr) (c : V) (cv : Value) (b : Bool), cls = .ref D ∧ hasD H d ∧ ExcC K D ∧ xs = [.ref a, c] ∧ ClsV c cv ∧ PySem.W.kitOne K (.ref D) cv = some b ∧ Q (.bl b) H
def rIsXT (K : PySem.W.Frag) (a : Addr) (cls : Value) (d : Option Addr) : List V → Hp → VK → Prop := fun xs H Q => ∃ (D tp : Addr) (cs : List V) (us : List Value) (b : Bool), cls = .ref D ∧ hasD H d ∧ ExcC K D ∧ xs = [.ref a, .ref tp] ∧ H tp = some (.tup cs) ∧ Paired ClsV cs us ∧ PySem.W.kitAny K (.ref D) us = some b ∧ Q (.bl b) H
theorem isx_at {X : Cx} {pins : List (Addr × Obj)} {σ : L2.St} {H : Hp} {s : Shared} {a D : Addr} {d : Option Addr} {oe : Obj} (I : Inv X pins σ H s) (hz : Zc (.ref D) d oe) (hf : ∃ vs, oe.data = .fields vs) (hget : s.heap.get? a = some oe) (hd : hasD H d) : ∃ od, PySem.W.InstAt s.heap a oe D od := by
  obtain ⟨vs, hv⟩ := hf
  rcases hd with e | ⟨dd, fs, e, ha⟩
  · subst e
    refine ⟨none, hget, hz.1, by unfold PySem.W.notCls; rw [hv] <;> rfl, ?_⟩
    rw [hz.2]
    trivial
  · subst e
    have ok : ObjOk X.prog X.w H s.heap dd (.xd fs) := I.hok dd _ ha
    obtain ⟨mA, hns, hr⟩ := ok
    obtain ⟨od, ho, hl⟩ := lookIn_ns hns
    refine ⟨some od, hget, hz.1, by unfold PySem.W.notCls; rw [hv] <;> rfl, ?_⟩
    rw [hz.2]
    exact ho
theorem xc_cls {K : PySem.W.Frag} {D : Addr} (C : ExcC K D) : (PySem.W.clsIn K D).isSome = true := by
  obtain ⟨cd, hc, _⟩ := PySem.W.any_some C.hd
  rw [hc]
  rfl
theorem call_isX1 {X : Cx} {a : Addr} {cls : Value} {d : Option Addr} {oe : Obj} {pn : List (Addr × Obj)} (hz : Zc cls d oe) (hf : ∃ vs, oe.data = .fields vs) : CallR (X.suite a ((a, oe) :: pn)) (.builtin "isinstance") (rIsX1 X.K a cls d) := by
  intro pins s σ H xs us Q I r h
  obtain ⟨D, c, cv, b, rfl, hd, C, rfl, k, e, q⟩ := h
  obtain ⟨u1, u2, rfl, r1, r2⟩ := vals2 r
  cases (show u1 = Value.ref a from r1)
  have e2 := k.eq r2
  subst e2
  obtain ⟨hget, _⟩ := I.pin (a, oe) (List.mem_append.mpr (.inl List.mem_cons_self))
  obtain ⟨od, J⟩ := isx_at I hz hf hget hd
  exact PySem.W.kia_one (PySem.W.kitx_exc (xc_cls C) C.hg C.hk C.hs C.ha C.hn C.ht C.hm) I.kIn J e (fun z => nomatch z) fun tk => ⟨.bl b, H, I.kept (t' := tk) fun _ _ z => z, rfl, q⟩
theorem call_isXT {X : Cx} {a : Addr} {cls : Value} {d : Option Addr} {oe : Obj} {pn : List (Addr × Obj)} (hz : Zc cls d oe) (hf : ∃ vs, oe.data = .fields vs) : CallR (X.suite a ((a, oe) :: pn)) (.builtin "isinstance") (rIsXT X.K a cls d) := by
  intro pins s σ H xs us Q I r h
  obtain ⟨D, tp, cs, ws, b, rfl, hd, C, rfl, hT, k, e, q⟩ := h
  obtain ⟨u1, u2, rfl, r1, r2⟩ := vals2 r
  cases (show u1 = Value.ref a from r1)
  cases (show u2 = Value.ref tp from r2)
  obtain ⟨hget, _⟩ := I.pin (a, oe) (List.mem_append.mpr (.inl List.mem_cons_self))
  obtain ⟨_, its, rv, o, h1, h2, n, h3⟩ := (show ObjOk X.prog X.w H s.heap tp (.tup cs) from I.hok tp _ hT)
  have e3 := ClsV.all k rv
  subst e3
  obtain ⟨od, J⟩ := isx_at I hz hf hget hd
  obtain ⟨oc, od', dt, sl⟩ := o
  simp only at h2 h3
  subst h2 h3
  exact PySem.W.kia_tup (PySem.W.kitx_exc (xc_cls C) C.hg C.hk C.hs C.ha C.hn C.ht C.hm) I.kIn J h1 e (fun z => nomatch z) fun tk => ⟨.bl b, H, I.kept (t' := tk) fun _ _ z => z, rfl, q⟩
section
variable {K : PySem.W.Frag} {a D dd : Addr} {fs : List (Str × V)} {H : Hp} {Q : VK} {b : Bool}
theorem w_isX1 {c : V} {cv : Value} (C : ExcC K D) (hd : H dd = some (.xd fs)) (k : ClsV c cv) (e : PySem.W.kitOne K (.ref D) cv = some b) (q : Q (.bl b) H) : rIsX1 K a (.ref D) (some dd) [.ref a, c] H Q := ⟨D, c, cv, b, rfl, .inr ⟨dd, fs, rfl, hd⟩, C, rfl, k, e, q⟩
theorem w_isXT {tp : Addr} {cs : List V} {us : List Value} (C : ExcC K D) (hd : H dd = some (.xd fs)) (hT : H tp = some (.tup cs)) (k : Paired ClsV cs us) (e : PySem.W.kitAny K (.ref D) us = some b) (q : Q (.bl b) H) : rIsXT K a (.ref D) (some dd) [.ref a, .ref tp] H Q := ⟨D, tp, cs, us, b, rfl, .inr ⟨dd, fs, rfl, hd⟩, C, rfl, hT, k, e, q⟩
theorem w_xfv {C : Addr} {f : Str} {v : V} {σ : L2.St} {i : Nat} (hs : σ[i]? = some (some (.ref a))) (hd : H dd = some (.xd fs)) (hl : fs.lookup f = some v) (q : Q v H) : tXf a (.ref C) (some dd) C f (tVar i) σ H Q := ⟨_, hs, rfl, rfl, dd, fs, v, rfl, hd, hl, q⟩
end
/-- what C(v) leaves: a new dict with the one field -/
def InitEnd (C : Addr) (n : Str) (v : V) : Sp := fun vs H Q _ => ∃ a, vs = [.ref a, v] ∧ H a = some (exo a C none) ∧ ∀ dx, H dx = none → dx ≠ a → Q .non (upd (upd H dx (exd dx [(n, v)])) a (exo a C (some dx)))
section
variable {K : PySem.W.Frag} {σ : L2.St} {H : Hp} {Q : VK} {ta : TA} {D : Ends} {te t : TE} {ts : List TE} {acc : Str}
def rVeI (K : PySem.W.Frag) : List V → Hp → VK → Prop := fun vs H1 Q => ∃ (a C : Addr) (ws : List V), vs = .ref a :: ws ∧ ws.length ≤ 1000 ∧ OexC K C ∧ H1 a = some (exo a C none) ∧ Q .non H1
theorem w_veI (h : ta σ H fun vs H1 => rVeI K vs H1 Q) : tVeI K ta σ H Q := h
theorem use_veI {a C : Addr} {x : V} (T : OexC K C) (h : H a = some (exo a C none)) (q : Q .non H) : rVeI K [.ref a, x] H Q := ⟨a, C, [x], rfl, by simp, T, h, q⟩
theorem w_js {R : Str → Hp → Prop} (h : t σ H fun x H1 => ∃ y : Str, x = .str y ∧ (acc ++ y).length ≤ sizeLine ∧ tJs ts (acc ++ y) σ H1 R) : tJs (t :: ts) acc σ H R := h
theorem w_jn {R : Str → Hp → Prop} (h : R acc H) : tJs [] acc σ H R := h
theorem w_fmtI {i : Int} {j : Nat} (e : σ[j]? = some (some (.int i))) (hi : i.natAbs.log2 < 1920) (q : Q (.str (toString i)) H) : tFmtR (tVar j) σ H Q := ⟨_, e, .inr ⟨i, rfl, hi, q⟩⟩
theorem w_fmtS {y : Str} {j : Nat} (e : σ[j]? = some (some (.str y))) (hy : (reprText y).length ≤ sizeLine) (q : Q (.str (reprText y)) H) : tFmtR (tVar j) σ H Q := ⟨_, e, .inl ⟨y, rfl, hy, q⟩⟩
/-- self.f = e, the first and only one -/
theorem w_ost {f : Str} {to : TE} {a C : Addr} {y : V} {j k : Nat} (e1 : σ[k]? = some (some y)) (e2 : σ[j]? = some (some (.ref a))) (T : OexC K C) (no : PySem.W.findIn K (.ref C) f = some none) (h : H a = some (exo a C none)) (q : ∀ dx, H dx = none → dx ≠ a → D.nx σ (upd (upd H dx (exd dx [(f, y)])) a (exo a C (some dx)))) :
    tOst K f (tVar j) (tVar k) D σ H := ⟨y, e1, .ref a, e2, a, C, rfl, T, no, .inl ⟨h, q⟩⟩
theorem len_cat {x y : Str} {m n : Nat} (h1 : x.length ≤ m) (h2 : y.length ≤ n) : (x ++ y).length ≤ m + n := by
  have e : (x ++ y).length = x.length + y.length := by
    rw [TL.len_tl, TL.tl_append, List.length_append, ← TL.len_tl, ← TL.len_tl]
  omega
theorem len_int {i : Int} (h : i.natAbs < 10 ^ 60) : (Str.ofString (toString i)).length ≤ 61 := by
  by_cases hn : i < 0
  · have k := TL.numL_len (n := (0 - i).natAbs) (k := 60) (by decide) (by omega)
    have e : 0 - i = (((0 - i).natAbs : Nat) : Int) := by omega
    rw [PyProof.Rows.len_text_neg hn, e, TL.len_tl, TL.tl_num]
    omega
  · have k := TL.numL_len (n := i.natAbs) (k := 60) (by decide) h
    have e : i = ((i.natAbs : Nat) : Int) := by omega
    rw [e, TL.len_tl, TL.tl_num]
    omega
theorem log_int {i : Int} (h : i.natAbs < 10 ^ 60) : i.natAbs.log2 < 1920 := by
  have k : i.natAbs.log2 < 200 := PySem.Flt.log2_lt_of (by decide) (show i.natAbs < 2 ^ 200 by omega)
  omega
end
def rMk (C : Addr) (sp : Sp) : List V → Hp → XK → Prop := fun vs H1 Q => vs.length ≤ 1000 ∧ ∀ a, H1 a = none → sp (.ref a :: (vs ++ [])) (upd H1 a (exo a C none))
  (fun v H2 => v = .non ∧ ∃ (d : Addr) (fs : List (Str × V)), H2 a = some (exo a C (some d)) ∧ H2 d = some (exd d fs) ∧ H1 d = none ∧ Q (.ref C) (some d) (upd (del H2 a) d (.xd fs))) (fun _ _ _ => False)
theorem w_mkO {C : Addr} {sp : Sp} {ta : TA} {σ : L2.St} {H : Hp} {Q : XK} (h : ta σ H fun vs H1 => rMk C sp vs H1 Q) : tMkO C sp [] ta σ H Q := h
theorem use_mk {C : Addr} {n : Str} {v : V} {sp : Sp} {H1 : Hp} {Q : XK} (hsp : ∀ (vs : List V) (H : Hp) (Q : VK) (E : XK), InitEnd C n v vs H Q E → sp vs H Q E) (q : ∀ d, H1 d = none → Q (.ref C) (some d) (upd H1 d (.xd [(n, v)]))) : rMk C sp [v] H1 Q := by
  refine ⟨by simp, fun a ha => hsp _ _ _ _ ⟨a, rfl, upd_same, fun dx h1 h2 => ⟨rfl, dx, _, upd_same, by rw [upd_ne h2, upd_same], ?_, ?_⟩⟩⟩
  · rw [upd_ne h2] at h1
    exact h1
  · have h3 : H1 dx = none := by rw [upd_ne h2] at h1; exact h1
    have e : upd (del (upd (upd (upd H1 a (exo a C none)) dx (exd dx [(n, v)])) a (exo a C (some dx))) a) dx (.xd [(n, v)]) = upd H1 dx (.xd [(n, v)]) := by
      funext b
      by_cases hb : b = dx
      · rw [hb, upd_same, upd_same]
      · rw [upd_ne hb, upd_ne hb]
        by_cases hba : b = a
        · rw [hba, del_same, ha]
        · rw [del_ne hba, upd_ne hba, upd_ne hb, upd_ne hba]
    rw [e]
    exact q dx h3
end X2

namespace MW
open PySem
/-! words of digits, and the law's own walk over them -/
def dg (c : Nat) : Bool := decide (48 ≤ c) && decide (c ≤ 57)
def d1 (c : Nat) : Bool := decide (49 ≤ c) && decide (c ≤ 57)
def posW : List Nat → Bool
  | [] => false
  | c :: r => d1 c && r.all dg
def strip : List Nat → List Nat
  | [] => []
  | c :: r => if c = 45 then r else c :: r
def wholeW (l : List Nat) : Bool := decide (l = [48]) || posW (strip l)
def dv (l : List Nat) : Nat := NumText.digitsVal l
def vz (l : List Nat) : Int := if l.head? = some 45 then -(dv (strip l) : Int) else (dv (strip l) : Int)
def stp (s c : Nat) : Nat :=
  if s = 0 ∧ c = 45 then 1 else if s = 0 ∧ c = 48 then 2 else if (s = 0 ∨ s = 1) ∧ d1 c = true then 3 else if s = 3 ∧ dg c = true then 3
  else if (s = 2 ∨ s = 3) ∧ c = 47 then 4 else if s = 4 ∧ d1 c = true then 5 else if s = 5 ∧ dg c = true then 5 else 6
/-- '0123456789'.find(c) -/
def fnd (c : Nat) : Int := if dg c = true then (c : Int) - 48 else -1
def rd (s : Nat × Int × Int) (c : Nat) : Nat × Int × Int := (stp s.1 c, (if stp s.1 c = 3 then 10 * s.2.1 + fnd c else s.2.1), (if stp s.1 c = 5 then 10 * s.2.2 + fnd c else s.2.2))
theorem d1_dg {c : Nat} (h : d1 c = true) : dg c = true := by
  simp only [d1, dg, Bool.and_eq_true, decide_eq_true_eq] at *
  omega
theorem stp6 (c : Nat) : stp 6 c = 6 := by simp [stp]
theorem dead (r : List Nat) (t b : Int) : r.foldl rd (6, t, b) = (6, t, b) := by
  induction r with
  | nil => rfl
  | cons c r ih =>
    rw [List.foldl_cons]
    have e : rd (6, t, b) c = (6, t, b) := by simp [rd, stp6]
    rw [e, ih]
theorem stp3 {c : Nat} (h : dg c = true) : stp 3 c = 3 := by simp [stp, h]
theorem stp3n {c : Nat} (h : dg c = false) (h2 : c ≠ 47) : stp 3 c = 6 := by simp [stp, h, h2]
theorem stp5 {c : Nat} (h : dg c = true) : stp 5 c = 5 := by simp [stp, h]
theorem stp5n {c : Nat} (h : dg c = false) : stp 5 c = 6 := by simp [stp, h]
def fz (r : List Nat) (t : Int) : Int := r.foldl (fun a c => 10 * a + fnd c) t
theorem run3 (r : List Nat) (h47 : 47 ∉ r) : ∀ t b : Int, (r.all dg = true → r.foldl rd (3, t, b) = (3, fz r t, b)) ∧ (r.all dg = false → (r.foldl rd (3, t, b)).1 = 6) := by
  induction r with
  | nil => exact fun t b => ⟨fun _ => rfl, fun h => by simp at h⟩
  | cons c r ih =>
    intro t b
    have h2 : c ≠ 47 := fun e => h47 (by simp [e])
    have ih' := ih (fun z => h47 (List.mem_cons_of_mem _ z))
    rw [List.foldl_cons]
    cases hc : dg c with
    | true =>
      have e : rd (3, t, b) c = (3, 10 * t + fnd c, b) := by simp [rd, stp3 hc]
      rw [e]
      refine ⟨fun h => ?_, fun h => ?_⟩
      · rw [List.all_cons, hc, Bool.true_and] at h
        exact (ih' _ _).1 h
      · rw [List.all_cons, hc, Bool.true_and] at h
        exact (ih' _ _).2 h
    | false =>
      have e : rd (3, t, b) c = (6, t, b) := by simp [rd, stp3n hc h2]
      rw [e, dead]
      exact ⟨fun h => by simp [hc] at h, fun _ => rfl⟩
theorem run5 (r : List Nat) : ∀ t b : Int, (r.all dg = true → r.foldl rd (5, t, b) = (5, t, fz r b)) ∧ (r.all dg = false → (r.foldl rd (5, t, b)).1 = 6) := by
  induction r with
  | nil => exact fun t b => ⟨fun _ => rfl, fun h => by simp at h⟩
  | cons c r ih =>
    intro t b
    rw [List.foldl_cons]
    cases hc : dg c with
    | true =>
      have e : rd (5, t, b) c = (5, t, 10 * b + fnd c) := by simp [rd, stp5 hc]
      rw [e]
      refine ⟨fun h => ?_, fun h => ?_⟩
      · rw [List.all_cons, hc, Bool.true_and] at h
        exact (ih _ _).1 h
      · rw [List.all_cons, hc, Bool.true_and] at h
        exact (ih _ _).2 h
    | false =>
      have e : rd (5, t, b) c = (6, t, b) := by simp [rd, stp5n hc]
      rw [e, dead]
      exact ⟨fun h => by simp [hc] at h, fun _ => rfl⟩
theorem all_digits {r : List Nat} (h : r.all dg = true) : NumText.AllDigits r := fun c hc => by
  have := List.all_eq_true.mp h c hc
  simp only [dg, Bool.and_eq_true, decide_eq_true_eq] at this
  exact this
theorem fz_dv : ∀ (r : List Nat) (n : Nat), r.all dg = true → fz r (n : Int) = ((r.foldl (fun acc c => acc * 10 + (c - 48)) n : Nat) : Int)
  | [], _, _ => rfl
  | c :: r, n, h => by
    rw [List.all_cons, Bool.and_eq_true] at h
    have hc : 48 ≤ c ∧ c ≤ 57 := by
      have := h.1
      simp only [dg, Bool.and_eq_true, decide_eq_true_eq] at this
      exact this
    unfold fz
    rw [List.foldl_cons, List.foldl_cons, ← fz_dv r _ h.2]
    have e : 10 * (n : Int) + fnd c = ((n * 10 + (c - 48) : Nat) : Int) := by
      unfold fnd
      rw [if_pos h.1]
      omega
    rw [e]
    rfl
theorem fz_cons {c : Nat} {r : List Nat} (h : (c :: r).all dg = true) : fz r (10 * 0 + fnd c) = (dv (c :: r) : Int) := by
  have e := fz_dv (c :: r) 0 h
  unfold fz at e
  rw [List.foldl_cons] at e
  exact e
theorem pos_all {l : List Nat} (h : posW l = true) : l.all dg = true ∧ l ≠ [] := by
  cases l with
  | nil => simp [posW] at h
  | cons c r =>
    simp only [posW, Bool.and_eq_true] at h
    exact ⟨by simp only [List.all_cons, d1_dg h.1, h.2, Bool.and_self], by simp⟩
/-- what the walk says of a list without a slash -/
def Ra (a : List Nat) (s : Nat × Int × Int) : Prop := s.2.2 = 0 ∧ (s.1 = 0 ∨ s.1 = 1 ∨ s.1 = 2 ∨ s.1 = 3 ∨ s.1 = 6) ∧ ((s.1 = 2 ∨ s.1 = 3) ↔ wholeW a = true) ∧ (wholeW a = true → s.2.1 = (dv (strip a) : Int))
theorem rd0 {c : Nat} {s : Nat} (h : stp s c ≠ 3) (h5 : stp s c ≠ 5) (t b : Int) : rd (s, t, b) c = (stp s c, t, b) := by simp [rd, h, h5]
theorem posW_45 (r : List Nat) : posW (45 :: r) = false := by simp [posW, d1]
theorem posW_48 (r : List Nat) : posW (48 :: r) = false := by simp [posW, d1]
theorem strip_45 (r : List Nat) : strip (45 :: r) = r := rfl
theorem strip_ot {c : Nat} (r : List Nat) (h : c ≠ 45) : strip (c :: r) = c :: r := by
  show (if c = 45 then r else c :: r) = _
  rw [if_neg h]
theorem whole_48 (r : List Nat) : wholeW (48 :: r) = decide (r = []) := by
  unfold wholeW
  rw [strip_ot r (by decide), posW_48, Bool.or_false]
  simp
theorem whole_45 (r : List Nat) : wholeW (45 :: r) = posW r := by
  unfold wholeW
  rw [strip_45]
  simp
theorem whole_ot {c : Nat} (r : List Nat) (h : c ≠ 45) (h2 : c ≠ 48) : wholeW (c :: r) = posW (c :: r) := by
  unfold wholeW
  rw [strip_ot r h]
  simp [h2]
theorem run2 (r : List Nat) (h47 : 47 ∉ r) (t b : Int) : r.foldl rd (2, t, b) = if r = [] then (2, t, b) else (6, t, b) := by
  cases r with
  | nil => rfl
  | cons c r =>
    have h2 : c ≠ 47 := fun e => h47 (by simp [e])
    have e : stp 2 c = 6 := by simp [stp, h2]
    rw [List.foldl_cons, rd0 (by rw [e]; decide) (by rw [e]; decide), e, dead, if_neg (by simp)]
theorem run_pos {c s : Nat} {r : List Nat} (hs : s = 0 ∨ s = 1) (h45 : s = 0 → c ≠ 45 ∧ c ≠ 48) (h47 : 47 ∉ c :: r) :
    (posW (c :: r) = true → (c :: r).foldl rd (s, 0, 0) = (3, (dv (c :: r) : Int), 0)) ∧ (posW (c :: r) = false → ((c :: r).foldl rd (s, 0, 0)).1 = 6 ∧ ((c :: r).foldl rd (s, 0, 0)).2.2 = 0) := by
  have h2 : c ≠ 47 := fun e => h47 (by simp [e])
  have hr : 47 ∉ r := fun z => h47 (List.mem_cons_of_mem _ z)
  cases hc : d1 c with
  | true =>
    have e : stp s c = 3 := by
      rcases hs with rfl | rfl
      · simp [stp, hc, (h45 rfl).1, (h45 rfl).2]
      · simp [stp, hc]
    have e2 : rd (s, 0, 0) c = (3, 10 * 0 + fnd c, 0) := by simp [rd, e]
    rw [List.foldl_cons, e2]
    cases ha : r.all dg with
    | true =>
      rw [(run3 r hr _ _).1 ha, fz_cons (by rw [List.all_cons, d1_dg hc, ha] <;> rfl)]
      exact ⟨fun _ => rfl, fun h => by simp [posW, hc, ha] at h⟩
    | false =>
      refine ⟨fun h => by simp [posW, hc, ha] at h, fun _ => ⟨(run3 r hr _ _).2 ha, ?_⟩⟩
      have key : ∀ (r : List Nat), 47 ∉ r → ∀ t : Int, (r.foldl rd (3, t, 0)).2.2 = 0 := by
        intro r
        induction r with
        | nil => exact fun _ t => rfl
        | cons c r ih =>
          intro h t
          have h2 : c ≠ 47 := fun e => h (by simp [e])
          rw [List.foldl_cons]
          cases hc : dg c with
          | true =>
            have e : rd (3, t, 0) c = (3, 10 * t + fnd c, 0) := by simp [rd, stp3 hc]
            rw [e]
            exact ih (fun z => h (List.mem_cons_of_mem _ z)) _
          | false =>
            have e : rd (3, t, 0) c = (6, t, 0) := by simp [rd, stp3n hc h2]
            rw [e, dead]
      exact key r hr _
  | false =>
    have e : stp s c = 6 := by
      rcases hs with rfl | rfl
      · simp [stp, hc, (h45 rfl).1, (h45 rfl).2]
      · simp [stp, hc]
    rw [List.foldl_cons, rd0 (by rw [e]; decide) (by rw [e]; decide), e, dead]
    exact ⟨fun h => by simp [posW, hc] at h, fun _ => ⟨rfl, rfl⟩⟩
theorem runA (a : List Nat) (h47 : 47 ∉ a) : Ra a (a.foldl rd (0, 0, 0)) := by
  cases a with
  | nil => exact ⟨rfl, .inl rfl, by simp [wholeW, strip, posW], by simp [wholeW, strip, posW]⟩
  | cons c r =>
    have hr : 47 ∉ r := fun z => h47 (List.mem_cons_of_mem _ z)
    by_cases h45 : c = 45
    · subst h45
      have e : stp 0 45 = 1 := by decide
      rw [List.foldl_cons, rd0 (by rw [e]; decide) (by rw [e]; decide), e]
      unfold Ra
      rw [whole_45]
      have es : strip (45 :: r) = r := strip_45 r
      rw [es]
      cases r with
      | nil => exact ⟨rfl, .inr (.inl rfl), by simp [posW], by simp [posW]⟩
      | cons d r =>
        have k := run_pos (c := d) (s := 1) (r := r) (.inr rfl) (fun z => by cases z) hr
        cases hp : posW (d :: r) with
        | true =>
          rw [k.1 hp]
          exact ⟨rfl, .inr (.inr (.inr (.inl rfl))), by simp, fun _ => rfl⟩
        | false =>
          obtain ⟨k1, k2⟩ := k.2 hp
          exact ⟨k2, .inr (.inr (.inr (.inr k1))), by rw [k1]; simp, by simp⟩
    · by_cases h48 : c = 48
      · subst h48
        have e : stp 0 48 = 2 := by decide
        rw [List.foldl_cons, rd0 (by rw [e]; decide) (by rw [e]; decide), e, run2 r hr]
        unfold Ra
        rw [whole_48]
        by_cases hn : r = []
        · subst hn
          exact ⟨rfl, .inr (.inr (.inl rfl)), by simp, fun _ => by decide⟩
        · rw [if_neg hn]
          exact ⟨rfl, .inr (.inr (.inr (.inr rfl))), by simp [hn], by simp [hn]⟩
      · have k := run_pos (c := c) (s := 0) (r := r) (.inl rfl) (fun _ => ⟨h45, h48⟩) h47
        unfold Ra
        rw [whole_ot r h45 h48]
        have es : strip (c :: r) = c :: r := strip_ot r h45
        rw [es]
        cases hp : posW (c :: r) with
        | true =>
          rw [k.1 hp]
          exact ⟨rfl, .inr (.inr (.inr (.inl rfl))), by simp, fun _ => rfl⟩
        | false =>
          obtain ⟨k1, k2⟩ := k.2 hp
          exact ⟨k2, .inr (.inr (.inr (.inr k1))), by rw [k1]; simp, by simp⟩
/-- behind a slash -/
theorem runB (b : List Nat) (t : Int) : (posW b = true → b.foldl rd (4, t, 0) = (5, t, (dv b : Int))) ∧ (posW b = false → (b.foldl rd (4, t, 0)).1 = 4 ∨ (b.foldl rd (4, t, 0)).1 = 6) := by
  cases b with
  | nil => exact ⟨fun h => by simp [posW] at h, fun _ => .inl rfl⟩
  | cons c r =>
    cases hc : d1 c with
    | true =>
      have e : stp 4 c = 5 := by simp [stp, hc]
      have e2 : rd (4, t, 0) c = (5, t, 10 * 0 + fnd c) := by simp [rd, e]
      rw [List.foldl_cons, e2]
      cases ha : r.all dg with
      | true =>
        rw [(run5 r _ _).1 ha, fz_cons (by rw [List.all_cons, d1_dg hc, ha] <;> rfl)]
        exact ⟨fun _ => rfl, fun h => by simp [posW, hc, ha] at h⟩
      | false => exact ⟨fun h => by simp [posW, hc, ha] at h, fun _ => .inr ((run5 r _ _).2 ha)⟩
    | false =>
      have e : stp 4 c = 6 := by simp [stp, hc]
      rw [List.foldl_cons, rd0 (by rw [e]; decide) (by rw [e]; decide), e, dead]
      exact ⟨fun h => by simp [posW, hc] at h, fun _ => .inr rfl⟩
theorem split47 : ∀ l : List Nat, 47 ∉ l ∨ ∃ a b, l = a ++ 47 :: b ∧ 47 ∉ a
  | [] => .inl (by simp)
  | c :: r => by
    by_cases h : c = 47
    · exact .inr ⟨[], r, by simp [h], by simp⟩
    · rcases split47 r with k | ⟨a, b, rfl, k⟩
      · exact .inl (by simp; exact ⟨fun e => h e.symm, k⟩)
      · exact .inr ⟨c :: a, b, rfl, by simp; exact ⟨fun e => h e.symm, k⟩⟩
theorem whole_free {l : List Nat} (h : wholeW l = true) : 47 ∉ l := by
  intro hm
  cases l with
  | nil => simp at hm
  | cons c r =>
    have key : ∀ m : List Nat, posW m = true → 47 ∉ m := fun m hp z => by
      have := all_digits (pos_all hp).1 47 z
      omega
    by_cases h45 : c = 45
    · subst h45
      rw [whole_45] at h
      rcases List.mem_cons.mp hm with e | z
      · omega
      · exact key r h z
    · by_cases h48 : c = 48
      · subst h48
        rw [whole_48] at h
        simp at h
        subst h
        simp at hm
      · rw [whole_ot r h45 h48] at h
        exact key _ h hm
/-- the walk's end -/
inductive End (l : List Nat) : Nat × Int × Int → Prop where
  | flat (s : Nat × Int × Int) (h : 47 ∉ l) (h5 : s.1 ≠ 5) (hw : (s.1 = 2 ∨ s.1 = 3) ↔ wholeW l = true) : End l s
  | good (a b : List Nat) (e : l = a ++ 47 :: b) (h : 47 ∉ a) (ha : wholeW a = true) (hb : posW b = true) : End l (5, (dv (strip a) : Int), (dv b : Int))
  | bad (s : Nat × Int × Int) (a b : List Nat) (e : l = a ++ 47 :: b) (h : 47 ∉ a) (hn : (wholeW a && posW b) = false) (h5 : s.1 ≠ 5 ∧ s.1 ≠ 2 ∧ s.1 ≠ 3) : End l s
theorem run_end (l : List Nat) : End l (l.foldl rd (0, 0, 0)) := by
  rcases split47 l with h | ⟨a, b, rfl, h⟩
  · obtain ⟨h1, h2, h3, h4⟩ := runA l h
    exact .flat _ h (by omega) h3
  · have ka := runA a h
    have hs : ∃ s t z, a.foldl rd (0, 0, 0) = (s, t, z) := ⟨_, _, _, rfl⟩
    obtain ⟨s, t, z, es⟩ := hs
    have kb : (a ++ 47 :: b).foldl rd (0, 0, 0) = b.foldl rd (rd (s, t, z) 47) := by rw [List.foldl_append, List.foldl_cons, es]
    rw [es] at ka
    obtain ⟨h1, h2, h3, h4⟩ := ka
    dsimp only at h1 h2 h3 h4
    subst h1
    by_cases hw : s = 2 ∨ s = 3
    · have e4 : stp s 47 = 4 := by rcases hw with rfl | rfl <;> decide
      have e5 : rd (s, t, 0) 47 = (4, t, 0) := by rw [rd0 (by rw [e4]; decide) (by rw [e4]; decide), e4]
      have ha := h3.mp hw
      rw [kb, e5]
      cases hp : posW b with
      | true =>
        rw [(runB b t).1 hp, h4 ha]
        exact .good a b rfl h ha hp
      | false => exact .bad _ a b rfl h (by rw [hp, Bool.and_false]) (by rcases (runB b t).2 hp with e | e <;> rw [e] <;> decide)
    · have e4 : stp s 47 = 6 := by rcases h2 with rfl | rfl | rfl | rfl | rfl <;> first | decide | exact absurd (by simp) hw
      have e5 : rd (s, t, 0) 47 = (6, t, 0) := by rw [rd0 (by rw [e4]; decide) (by rw [e4]; decide), e4]
      rw [kb, e5, dead]
      exact .bad _ a b rfl h (by rw [Bool.and_eq_false_iff]; exact .inl (Bool.eq_false_iff.mpr fun z => hw (h3.mpr z))) ⟨by simp, by simp, by simp⟩
theorem dv_zero (l : List Nat) : dv (48 :: l) = dv l := rfl
theorem dv_pos {l : List Nat} (h : posW l = true) : 0 < dv l := by
  cases l with
  | nil => simp [posW] at h
  | cons c r =>
    simp only [posW, Bool.and_eq_true, d1, decide_eq_true_eq] at h
    have key : ∀ (r : List Nat) (n : Nat), 0 < n → 0 < r.foldl (fun acc c => acc * 10 + (c - 48)) n := by
      intro r
      induction r with
      | nil => exact fun n h => h
      | cons d r ih => exact fun n h => ih (n * 10 + (d - 48)) (by omega)
    show 0 < r.foldl (fun acc c => acc * 10 + (c - 48)) (0 * 10 + (c - 48))
    exact key r _ (by omega)
theorem dv_lt : ∀ (l : List Nat), l.all dg = true → dv l < 10 ^ l.length := by
  have key : ∀ (r : List Nat) (n k : Nat), r.all dg = true → n < 10 ^ k → r.foldl (fun acc c => acc * 10 + (c - 48)) n < 10 ^ (k + r.length) := by
    intro r
    induction r with
    | nil => exact fun n k _ h => h
    | cons c r ih =>
      intro n k h hn
      rw [List.all_cons, Bool.and_eq_true] at h
      have hc : c ≤ 57 := by
        have := h.1
        simp only [dg, Bool.and_eq_true, decide_eq_true_eq] at this
        omega
      have := ih (n * 10 + (c - 48)) (k + 1) h.2 (by rw [Nat.pow_succ]; omega)
      rw [List.foldl_cons, List.length_cons, show k + (r.length + 1) = k + 1 + r.length by omega]
      exact this
  intro l h
  have := key l 0 0 h (by decide)
  rw [Nat.zero_add] at this
  exact this
end MW

namespace MT
open PySem PySem.Spec PyProof.Rows L2 MW
open SX (S S_len S_cat S_inj slice_to slice_from num_S)
/-! texts as lists of codes -/
theorem vS_eq {l m : List Nat} : (V.str (S l) = V.str (S m)) ↔ l = m := ⟨fun h => S_inj (V.str.inj h), fun h => by rw [h]⟩
section
variable {A B : Prop} {l m : List Nat} {z : Str}
theorem w_iteS (m : List Nat) (e : z = S m) (h1 : l = m → A) (h2 : l ≠ m → B) : if decide (V.str (S l) = V.str z) = true then A else B := by
  subst e
  by_cases h : l = m
  · rw [if_pos (decide_eq_true (vS_eq.mpr h))]; exact h1 h
  · rw [if_neg (fun k => h (vS_eq.mp (of_decide_eq_true k)))]; exact h2 h
theorem w_iteSN (m : List Nat) (e : z = S m) (h1 : l ≠ m → A) (h2 : l = m → B) : if (!decide (V.str (S l) = V.str z)) = true then A else B := by
  subst e
  by_cases h : l = m
  · rw [decide_eq_true (vS_eq.mpr h)]; exact h2 h
  · rw [decide_eq_false (fun k => h (vS_eq.mp k))]; exact h1 h
end
theorem ascii_S (l : List Nat) : Txt.isascii (S l) = l.all (· < 128) := by
  unfold Txt.isascii S
  simp
theorem starts1 (l : List Nat) (c : Nat) : Txt.startswith (S l) (S [c]) = decide (l.head? = some c) := by
  cases l with
  | nil => simp [Txt.startswith, S, Str.length]
  | cons d r =>
    simp only [Txt.startswith, S_len, List.length_cons, List.length_nil]
    have e : ∀ z : Nat, (⟨#[z]⟩ : Str).length = 1 := fun _ => rfl
    by_cases h : d = c
    · subst h
      simp [Builtin.Str.subAt, S, e]
    · simp [Builtin.Str.subAt, S, h, e]
theorem digit_S (l : List Nat) (h : l.all (· < 128) = true) : Txt.isdigit (S l) = (!l.isEmpty && l.all dg) := by
  have e : ∀ l : List Nat, l.all (· < 128) = true → l.all Unicode.isDigit = l.all dg := by
    intro l
    induction l with
    | nil => exact fun _ => rfl
    | cons c r ih =>
      intro h
      rw [List.all_cons, Bool.and_eq_true] at h
      have k := cls_isdigit c (of_decide_eq_true h.1)
      rw [List.all_cons, List.all_cons, ih h.2, k]
      congr 1
      have k3 : ∀ c, c < 128 → inR 48 57 ⟨#[c]⟩ = dg c := by decide +kernel
      exact k3 c (of_decide_eq_true h.1)
  unfold Txt.isdigit
  rw [S_len]
  have e2 : (S l).cps.all Unicode.isDigit = l.all Unicode.isDigit := by simp [S]
  rw [e2, e l h]
  cases l <;> simp
theorem pos_txt (l : List Nat) : posW l = (Txt.isascii (S l) && (Txt.isdigit (S l) && !Txt.startswith (S l) (S [48]))) := by
  rw [ascii_S]
  cases h : l.all (· < 128) with
  | true =>
    rw [digit_S l h, starts1, Bool.true_and]
    cases l with
    | nil => rfl
    | cons c r =>
      simp only [posW, List.isEmpty_cons, Bool.not_false, Bool.true_and, List.all_cons, List.head?_cons, Option.some.injEq, d1, dg]
      cases r.all dg with
      | false => simp
      | true =>
        simp only [Bool.and_true]
        by_cases h1 : 49 ≤ c
        · by_cases h2 : c ≤ 57
          · simp [h1, h2, show 48 ≤ c by omega, show c ≠ 48 by omega]
          · simp [h1, h2]
        · by_cases h2 : c = 48
          · simp [h2]
          · simp [h1, show ¬ 48 ≤ c by omega]
  | false =>
    rw [Bool.false_and]
    cases l with
    | nil => simp at h
    | cons c r =>
      refine Bool.eq_false_iff.mpr fun k => ?_
      have := (pos_all k).1
      have k2 : (c :: r).all (· < 128) = true := List.all_eq_true.mpr fun d hd => by
        have := all_digits this d hd
        exact decide_eq_true (by omega)
      rw [k2] at h
      cases h
theorem cut_to {l : List Nat} {i : Int} (h : 0 ≤ i) : cutS (S l) none (some i) = S (l.take i.toNat) := by rw [C8.cutS_slice, slice_to h]
theorem cut_from {l : List Nat} {i : Int} (h : 0 ≤ i) : cutS (S l) (some i) none = S (l.drop i.toNat) := by rw [C8.cutS_slice, slice_from h]
theorem rp_S (l : List Nat) : Txt.removeprefix (S l) (S [45]) = S (strip l) := by
  rw [StrLaws.removeprefix_eq]
  have e := starts1 l 45
  unfold Txt.startswith at e
  cases l with
  | nil => rfl
  | cons c r =>
    by_cases h : c = 45
    · subst h
      rw [if_pos (by rw [e]; simp), strip_45]
      simp [S, Str.length]
    · rw [if_neg (by rw [e]; simp [h]), strip_ot r h]
theorem find_dg {c : Nat} (h : dg c = true) : Txt.find (S [48, 49, 50, 51, 52, 53, 54, 55, 56, 57]) (S [c]) = fnd c := by
  have hc : 48 ≤ c ∧ c ≤ 57 := by simpa [dg] using h
  have : c = 48 ∨ c = 49 ∨ c = 50 ∨ c = 51 ∨ c = 52 ∨ c = 53 ∨ c = 54 ∨ c = 55 ∨ c = 56 ∨ c = 57 := by omega
  rcases this with e | e | e | e | e | e | e | e | e | e <;> subst e <;> decide +kernel
/-- the text of a whole number -/
def nz (i : Int) : List Nat := if i < 0 then 45 :: TL.numL i.natAbs else TL.numL i.natAbs
theorem S_nz (i : Int) : Str.ofString (toString i) = S (nz i) := by
  unfold nz
  by_cases h : i < 0
  · rw [if_pos h]
    refine TL.ext_tl ?_
    have e : toString i = "-" ++ toString ((i.natAbs : Nat) : Int) := by
      rw [PyProof.Rows.toString_neg h]
      congr 2
      omega
    rw [e, TL.tl_ofString, String.toList_append, List.map_append]
    have e2 := TL.tl_num i.natAbs
    rw [TL.tl_ofString] at e2
    rw [e2]
    rfl
  · rw [if_neg h]
    have e : i = ((i.natAbs : Nat) : Int) := by omega
    exact (congrArg (fun x : Int => Str.ofString (toString x)) e).trans (num_S i.natAbs)
theorem posW_snoc {l : List Nat} {c : Nat} (h : posW l = true) (hc : dg c = true) : posW (l ++ [c]) = true := by
  cases l with
  | nil => simp [posW] at h
  | cons d r =>
    simp only [posW, Bool.and_eq_true, List.cons_append, List.all_append, List.all_cons, List.all_nil] at *
    exact ⟨h.1, h.2, hc, trivial⟩
theorem numL_posW : ∀ n : Nat, 0 < n → posW (TL.numL n) = true := by
  intro n
  induction n using Nat.strongRecOn with
  | _ n ih =>
    intro h
    by_cases h10 : n < 10
    · rw [TL.numL_lt h10]
      simp [posW, d1]
      omega
    · rw [TL.numL_step (by omega)]
      exact posW_snoc (ih (n / 10) (by omega) (by omega)) (by simp [dg]; omega)
theorem dv_num (n : Nat) : dv (TL.numL n) = n := TL.numL_val n
theorem head_num (n : Nat) : (TL.numL n).head? ≠ some 45 := by
  intro h
  have hm : 45 ∈ TL.numL n := List.mem_of_mem_head? h
  have := TL.numL_digits n 45 hm
  omega
theorem strip_num (n : Nat) : strip (TL.numL n) = TL.numL n := by
  have k := head_num n
  cases h : TL.numL n with
  | nil => rfl
  | cons c r =>
    rw [h] at k
    exact strip_ot r (by simpa using k)
theorem nz_whole (i : Int) : wholeW (nz i) = true := by
  unfold nz
  by_cases h : i < 0
  · rw [if_pos h, whole_45]
    exact numL_posW _ (by omega)
  · rw [if_neg h]
    by_cases h0 : i.natAbs = 0
    · rw [h0]
      decide
    · unfold wholeW
      rw [strip_num, numL_posW _ (by omega), Bool.or_true]
theorem nz_val (i : Int) : vz (nz i) = i := by
  unfold vz nz
  by_cases h : i < 0
  · rw [if_pos h, if_pos (by simp), strip_45, dv_num]
    omega
  · rw [if_neg h, if_neg (head_num _), strip_num, dv_num]
    omega
theorem numL_nz {n : Nat} : nz (n : Int) = TL.numL n := by
  unfold nz
  rw [if_neg (by omega)]
  simp
section
variable {σ : L2.St} {H : Hp} {Q : VK} {to te : TE} {r : V → List V → Hp → VK → Prop}
theorem w_m0 (h : to σ H fun x H1 => (∃ a, x = .str a) ∧ r x [] H1 Q) : tM0 r to σ H Q := h
theorem w_m1 (h : to σ H fun x H1 => (∃ a, x = .str a) ∧ te σ H1 fun y H2 => r x [y] H2 Q) : tM1 r to te σ H Q := h
theorem w_slice {r : V → Option Int → Option Int → Hp → VK → Prop} {te : TE} {tl th : TO} (h : te σ H fun x H1 => tl σ H1 fun l H2 => th σ H2 fun u H3 => r x l u H3 Q) : L2.tSl r te tl th σ H Q := h
theorem w_nopart {R : Option Int → Hp → Prop} (h : R none H) : tNoPart σ H R := h
theorem w_part {t : TE} {R : Option Int → Hp → Prop} (h : t σ H fun x H1 => ∃ i, x = .int i ∧ R (some i) H1) : tPart t σ H R := h
theorem w_cut {l : List Nat} {lo hi : Option Int} (hl : l.length ≤ 100000) (q : Q (.str (cutS (S l) lo hi)) H) : rSlS (.str (S l)) lo hi H Q := ⟨_, rfl, by rw [S_len]; exact Nat.le_trans hl (by decide), q⟩
theorem w_cutTo {l : List Nat} {i : Int} (hl : l.length ≤ 100000) (hi : 0 ≤ i) (q : Q (.str (S (l.take i.toNat))) H) : rSlS (.str (S l)) none (some i) H Q := w_cut hl (by rw [cut_to hi]; exact q)
theorem w_cutFrom {l : List Nat} {i : Int} (hl : l.length ≤ 100000) (hi : 0 ≤ i) (q : Q (.str (S (l.drop i.toNat))) H) : rSlS (.str (S l)) (some i) none H Q := w_cut hl (by rw [cut_from hi]; exact q)
def rAddS : R2 := fun x y H Q => ∃ i j, x = .str i ∧ y = .str j ∧ i.length + j.length ≤ sizeLine ∧ Q (.str (i ++ j)) H
theorem op_addS {X : Cx} : OpR X (binaryOp .Add) rAddS := op_add_str
theorem w_addS {l m : List Nat} (hl : l.length + m.length ≤ 100000) (q : Q (.str (S (l ++ m))) H) : rAddS (.str (S l)) (.str (S m)) H Q := ⟨_, _, rfl, rfl, by rw [S_len, S_len]; exact Nat.le_trans hl (by decide), by rw [S_cat]; exact q⟩
theorem w_ixS {l : List Nat} {k : Int} {c : Nat} (hl : l.length ≤ 100000) (a : atI l k = some c) (q : Q (.str (S [c])) H) : rIxS (.str (S l)) (.int k) H Q := ⟨_, _, c, rfl, rfl, by rw [S_len]; exact Nat.le_trans hl (by decide), a, q⟩
theorem pickN {l : List Nat} {k : Int} (h0 : 0 ≤ k) (h : k < l.length) : ∃ c, atI l k = some c ∧ c ∈ l := by
  obtain ⟨j, rfl⟩ := Int.eq_ofNat_of_zero_le h0
  have hj : j < l.length := by omega
  exact ⟨l[j], atI_nat (j := j) (List.getElem?_eq_getElem hj), List.getElem_mem hj⟩
def rInS : R2 := fun x y H Q => ∃ (c : Nat) (z : Str), x = .str ⟨#[c]⟩ ∧ y = .str z ∧ Q (.bl (decide (c ∈ z.cps.toList))) H
def rNotInS : R2 := fun x y H Q => ∃ (c : Nat) (z : Str), x = .str ⟨#[c]⟩ ∧ y = .str z ∧ Q (.bl (!decide (c ∈ z.cps.toList))) H
theorem op_inS {X : Cx} : OpR X (compareOp .In) rInS := op_in_sign
theorem op_notInS {X : Cx} : OpR X (compareOp .NotIn) rNotInS := op_notIn_sign
theorem w_in1 {c : Nat} {m : List Nat} (q : Q (.bl (decide (c ∈ m))) H) : rInS (.str (S [c])) (.str (S m)) H Q := ⟨c, _, rfl, rfl, q⟩
theorem w_notin1 {c : Nat} {m : List Nat} (q : Q (.bl (!decide (c ∈ m))) H) : rNotInS (.str (S [c])) (.str (S m)) H Q := ⟨c, _, rfl, rfl, q⟩
theorem w_chain {r r' : R2} {ta tb tc : TE} (h : ta σ H fun x H1 => tb σ H1 fun y H2 => r x y H2 fun z H3 => ∃ k, z = .bl k ∧ (if k = true then tc σ H3 fun w' H4 => r' y w' H4 Q else Q (.bl false) H3)) : tChain r r' ta tb tc σ H Q := h
theorem w_rng3 {tl : TA} {R : It → Hp → Prop} (h : tl σ H fun vs H1 => ∃ (i j c : Int) (n : Nat), vs = [.int i, .int j, .int c] ∧ RgC i j c n ∧ R (Itc i c n) H1) : iRng3 tl σ H R := h
def rLenS : List V → Hp → VK → Prop := fun xs H Q => ∃ z : Str, xs = [.str z] ∧ z.length ≤ sizeLine ∧ Q (.int z.length) H
theorem call_lenS {X : Cx} : CallR X (.builtin "len") rLenS := call_len_str
theorem w_lenS {l : List Nat} (hl : l.length ≤ 100000) (q : Q (.int l.length) H) : rLenS [.str (S l)] H Q := ⟨_, rfl, by rw [S_len]; exact Nat.le_trans hl (by decide), by rw [S_len]; exact q⟩
theorem rg0 {n : Nat} (h : n < 64) : RgC (n : Int) (n : Int) 64 0 := by
  have k : ∀ n : Nat, n < 64 → Builtin.Range.small (n : Int) (n : Int) 64 = true := by decide +kernel
  exact ⟨by decide, by decide, k n h, by simp [Builtin.Range.rangeSize]⟩
theorem pe_strS {X : Cx} {z : Str} {l : List Nat} {j : Nat} {pos : Pos} (e : z = S l) : PE X (.Constant (.str z) j pos) (tC (.str (S l))) := by
  subst e
  exact pe_str
end
end MT

local macro_rules | `(tactic| walk_at "len") => `(tactic| first
  | omega
  | (simp only [List.length_append, List.length_cons, List.length_nil, List.length_take, List.length_drop, List.length_map]; omega)
  | decide)
local macro_rules | `(tactic| walk_at "w1") => `(tactic| first
  | with_reducible refine MT.w_m0 ?_
  | with_reducible refine MT.w_m1 ?_
  | with_reducible refine MT.w_slice ?_
  | with_reducible refine MT.w_nopart ?_
  | with_reducible refine MT.w_part ?_
  | ((with_reducible refine' MT.w_cutTo ?wh ?wa ?_); (case wh => walk_at "len"); (case wa => omega))
  | ((with_reducible refine' MT.w_cutFrom ?wh ?wa ?_); (case wh => walk_at "len"); (case wa => omega))
  | ((with_reducible refine' MT.w_addS ?wh ?_); (case wh => walk_at "len"))
  | ((with_reducible refine' MT.w_ixS ?wh ?wa ?_); (case wh => walk_at "len"); (case wa => assumption))
  | with_reducible refine MT.w_in1 ?_
  | with_reducible refine MT.w_notin1 ?_
  | with_reducible refine MT.w_chain ?_
  | with_reducible refine MT.w_rng3 ?_
  | ((with_reducible refine' MT.w_lenS ?wh ?_); (case wh => walk_at "len"))
  | with_reducible refine ⟨⟨_, rfl⟩, ?_⟩
  | with_reducible refine ⟨trivial, ?_⟩
  | with_reducible refine ⟨_, _, rfl, rfl, ?_⟩
  | fail "w1")

namespace L
open PySem PySem.Spec PyProof.Rows L2 Z
abbrev D_ratio : List V := [.int 1]
def topS (i : Nat) : Stmt := PySem.Challenge.pw_papersat_k03_ratio_words.main.body.getD i (.Pass ⟨0, 0, 0, 0⟩)
abbrev s_BadText_init : Stmt := inClass (topS 9) 0
abbrev N_BadText_init : List Str := ["self", "place"]
theorem sc_BadText_init : FnScope N_BadText_init ["self", "place"] (defScope s_BadText_init) := ⟨rfl, rfl, rfl, by decide +kernel, rfl, by decide +kernel, by decide +kernel⟩
abbrev s_whole_text : Stmt := topS 17
abbrev N_whole_text : List Str := ["number", "sign", "rest", "pieces", "low"]
theorem sc_whole_text : FnScope N_whole_text ["number"] (defScope s_whole_text) := ⟨rfl, rfl, rfl, by decide +kernel, rfl, by decide +kernel, by decide +kernel⟩
abbrev s_read_whole : Stmt := topS 18
abbrev N_read_whole : List Str := ["word", "digits", "first", "total", "start"]
theorem sc_read_whole : FnScope N_read_whole ["word"] (defScope s_read_whole) := ⟨rfl, rfl, rfl, by decide +kernel, rfl, by decide +kernel, by decide +kernel⟩
abbrev s_is_whole_word : Stmt := topS 20
abbrev N_is_whole_word : List Str := ["text"]
theorem sc_is_whole_word : FnScope N_is_whole_word ["text"] (defScope s_is_whole_word) := ⟨rfl, rfl, rfl, by decide +kernel, rfl, by decide +kernel, by decide +kernel⟩
abbrev s_is_ratio_word : Stmt := topS 21
abbrev N_is_ratio_word : List Str := ["text", "above", "_", "below"]
theorem sc_is_ratio_word : FnScope N_is_ratio_word ["text"] (defScope s_is_ratio_word) := ⟨rfl, rfl, rfl, by decide +kernel, rfl, by decide +kernel, by decide +kernel⟩
abbrev s_is_positive_word : Stmt := topS 22
abbrev N_is_positive_word : List Str := ["text"]
theorem sc_is_positive_word : FnScope N_is_positive_word ["text"] (defScope s_is_positive_word) := ⟨rfl, rfl, rfl, by decide +kernel, rfl, by decide +kernel, by decide +kernel⟩
abbrev s_ratio : Stmt := topS 24
abbrev N_ratio : List Str := ["p", "q", "common"]
theorem sc_ratio : FnScope N_ratio ["p", "q"] (defScope s_ratio) := ⟨rfl, rfl, rfl, by decide +kernel, rfl, by decide +kernel, by decide +kernel⟩
abbrev s_ratio_text : Stmt := topS 25
abbrev N_ratio_text : List Str := ["a"]
theorem sc_ratio_text : FnScope N_ratio_text ["a"] (defScope s_ratio_text) := ⟨rfl, rfl, rfl, by decide +kernel, rfl, by decide +kernel, by decide +kernel⟩
abbrev s_parse_ratio : Stmt := topS 26
abbrev N_parse_ratio : List Str := ["text", "above", "_", "below"]
theorem sc_parse_ratio : FnScope N_parse_ratio ["text"] (defScope s_parse_ratio) := ⟨rfl, rfl, rfl, by decide +kernel, rfl, by decide +kernel, by decide +kernel⟩
abbrev s_pool : Stmt := topS 28
abbrev N_pool : List Str := ["_law_script", "_law_k", "_law_cell", "_law_spare"]
theorem sc_pool : FnScope N_pool ["_law_script", "_law_k"] (defScope s_pool) := ⟨rfl, rfl, rfl, by decide +kernel, rfl, by decide +kernel, by decide +kernel⟩
abbrev s_take : Stmt := topS 29
abbrev N_take : List Str := ["_law_pool_here", "_law_size", "_law_k", "_law_cell", "_law_mixed"]
theorem sc_take : FnScope N_take ["_law_pool_here", "_law_size"] (defScope s_take) := ⟨rfl, rfl, rfl, by decide +kernel, rfl, by decide +kernel, by decide +kernel⟩
abbrev s_whole : Stmt := topS 30
abbrev N_whole : List Str := ["_law_value"]
theorem sc_whole : FnScope N_whole ["_law_value"] (defScope s_whole) := ⟨rfl, rfl, rfl, by decide +kernel, rfl, by decide +kernel, by decide +kernel⟩
abbrev s_sized : Stmt := topS 31
abbrev N_sized : List Str := ["_law_pool_here", "_law_pieces", "_law_size", "_law_total", "_law_k"]
theorem sc_sized : FnScope N_sized ["_law_pool_here", "_law_pieces"] (defScope s_sized) := ⟨rfl, rfl, rfl, by decide +kernel, rfl, by decide +kernel, by decide +kernel⟩
abbrev s_lowest : Stmt := topS 32
abbrev N_lowest : List Str := ["_law_p", "_law_q", "_law_a", "_law_b", "_law_k"]
theorem sc_lowest : FnScope N_lowest ["_law_p", "_law_q"] (defScope s_lowest) := ⟨rfl, rfl, rfl, by decide +kernel, rfl, by decide +kernel, by decide +kernel⟩
abbrev s_digits : Stmt := topS 33
abbrev N_digits : List Str := ["_law_pool_here", "_law_most", "_law_text_here", "_law_many", "_law_k"]
theorem sc_digits : FnScope N_digits ["_law_pool_here", "_law_most"] (defScope s_digits) := ⟨rfl, rfl, rfl, by decide +kernel, rfl, by decide +kernel, by decide +kernel⟩
abbrev s_word : Stmt := topS 34
abbrev N_word : List Str := ["_law_pool_here", "_law_most", "_law_pick"]
theorem sc_word : FnScope N_word ["_law_pool_here", "_law_most"] (defScope s_word) := ⟨rfl, rfl, rfl, by decide +kernel, rfl, by decide +kernel, by decide +kernel⟩
abbrev s_signs : Stmt := topS 35
abbrev N_signs : List Str := ["_law_signs_here"]
theorem sc_signs : FnScope N_signs [] (defScope s_signs) := ⟨rfl, rfl, rfl, by decide +kernel, rfl, by decide +kernel, by decide +kernel⟩
abbrev s_sign : Stmt := topS 36
abbrev N_sign : List Str := ["_law_pool_here", "_law_signs_here"]
theorem sc_sign : FnScope N_sign ["_law_pool_here"] (defScope s_sign) := ⟨rfl, rfl, rfl, by decide +kernel, rfl, by decide +kernel, by decide +kernel⟩
abbrev s_spoilt : Stmt := topS 37
abbrev N_spoilt : List Str := ["_law_pool_here", "_law_text_here", "_law_at", "_law_way"]
theorem sc_spoilt : FnScope N_spoilt ["_law_pool_here", "_law_text_here"] (defScope s_spoilt) := ⟨rfl, rfl, rfl, by decide +kernel, rfl, by decide +kernel, by decide +kernel⟩
abbrev s_odd : Stmt := topS 38
abbrev N_odd : List Str := ["_law_pool_here", "_law_odd_here"]
theorem sc_odd : FnScope N_odd ["_law_pool_here"] (defScope s_odd) := ⟨rfl, rfl, rfl, by decide +kernel, rfl, by decide +kernel, by decide +kernel⟩
abbrev s_free : Stmt := topS 39
abbrev N_free : List Str := ["_law_pool_here", "_law_signs_here", "_law_many", "_law_k"]
theorem sc_free : FnScope N_free ["_law_pool_here"] (defScope s_free) := ⟨rfl, rfl, rfl, by decide +kernel, rfl, by decide +kernel, by decide +kernel⟩
abbrev s_text : Stmt := topS 40
abbrev N_text : List Str := ["_law_pool_here", "_law_way", "_law_text_here"]
theorem sc_text : FnScope N_text ["_law_pool_here"] (defScope s_text) := ⟨rfl, rfl, rfl, by decide +kernel, rfl, by decide +kernel, by decide +kernel⟩
abbrev s_step : Stmt := topS 41
abbrev N_step : List Str := ["_law_state", "_law_sign_here"]
theorem sc_step : FnScope N_step ["_law_state", "_law_sign_here"] (defScope s_step) := ⟨rfl, rfl, rfl, by decide +kernel, rfl, by decide +kernel, by decide +kernel⟩
abbrev s_read : Stmt := topS 42
abbrev N_read : List Str := ["_law_text_here", "_law_state", "_law_top", "_law_bottom", "_law_sign_here"]
theorem sc_read : FnScope N_read ["_law_text_here"] (defScope s_read) := ⟨rfl, rfl, rfl, by decide +kernel, rfl, by decide +kernel, by decide +kernel⟩
abbrev s_is : Stmt := topS 43
abbrev N_is : List Str := ["_law_told", "_law_top", "_law_bottom"]
theorem sc_is : FnScope N_is ["_law_told", "_law_top", "_law_bottom"] (defScope s_is) := ⟨rfl, rfl, rfl, by decide +kernel, rfl, by decide +kernel, by decide +kernel⟩
abbrev s_refused : Stmt := topS 44
abbrev N_refused : List Str := ["_law_text_here", "e"]
theorem sc_refused : FnScope N_refused ["_law_text_here"] (defScope s_refused) := ⟨rfl, rfl, rfl, by decide +kernel, rfl, by decide +kernel, by decide +kernel⟩
abbrev s_refused_by_base : Stmt := topS 45
abbrev N_refused_by_base : List Str := ["_law_text_here", "e"]
theorem sc_refused_by_base : FnScope N_refused_by_base ["_law_text_here"] (defScope s_refused_by_base) := ⟨rfl, rfl, rfl, by decide +kernel, rfl, by decide +kernel, by decide +kernel⟩
abbrev s_asked : Stmt := topS 46
abbrev N_asked : List Str := ["_law_text_here", "_law_how", "_law_state", "_law_top", "_law_bottom", "_law_told"]
theorem sc_asked : FnScope N_asked ["_law_text_here", "_law_how"] (defScope s_asked) := ⟨rfl, rfl, rfl, by decide +kernel, rfl, by decide +kernel, by decide +kernel⟩
abbrev s_written : Stmt := topS 47
abbrev N_written : List Str := ["_law_pair", "_law_own", "_law_told"]
theorem sc_written : FnScope N_written ["_law_pair"] (defScope s_written) := ⟨rfl, rfl, rfl, by decide +kernel, rfl, by decide +kernel, by decide +kernel⟩
abbrev s_law : Stmt := topS 48
abbrev N_law : List Str := ["_law_script", "_law_k", "_law_pool_here", "_law_text_here", "_law_how", "_law_top", "_law_pair"]
theorem sc_law : FnScope N_law ["_law_script"] (defScope s_law) := ⟨rfl, rfl, rfl, by decide +kernel, rfl, by decide +kernel, by decide +kernel⟩
def lit_0 : List Nat := [116, 104, 101, 32, 116, 101, 120, 116, 32, 99, 97, 110, 110, 111, 116, 32, 98, 101, 32, 114, 101, 97, 100, 32, 97, 116, 32]
def lit_1 : List Nat := [32, 33, 34, 35, 36, 38, 39, 40, 41, 42, 43, 44, 45, 46, 47, 48, 49, 50, 51, 52, 53, 54, 55, 56, 57, 58, 59, 60, 61, 62, 63, 64, 65, 66, 67, 68, 69, 70, 71, 72, 73, 74, 75, 76, 77, 78, 79, 80, 81, 82, 83, 84, 85, 86, 87, 88, 89, 90, 91, 92, 93, 94, 95, 96]
def lit_2 : List Nat := [97, 98, 99, 100, 101, 102, 103, 104, 105, 106, 107, 108, 109, 110, 111, 112, 113, 114, 115, 116, 117, 118, 119, 120, 121, 122, 123, 124, 125, 126, 10]
structure Txt (K : PySem.W.Frag) (mg : Str → Option Value) : Type where
  f_BadText_init : Addr
  fd_BadText_init : FuncData
  F_BadText_init : Fun K "__init__" "BadText.__init__" s_BadText_init f_BadText_init fd_BadText_init
  b_BadText_init : Binds K fd_BadText_init ["self", "place"] []
  f_whole_text : Addr
  fd_whole_text : FuncData
  F_whole_text : Fun K "whole_text" "whole_text" s_whole_text f_whole_text fd_whole_text
  b_whole_text : Binds K fd_whole_text ["number"] []
  g_whole_text : mg "whole_text" = some (.ref f_whole_text)
  f_read_whole : Addr
  fd_read_whole : FuncData
  F_read_whole : Fun K "read_whole" "read_whole" s_read_whole f_read_whole fd_read_whole
  b_read_whole : Binds K fd_read_whole ["word"] []
  g_read_whole : mg "read_whole" = some (.ref f_read_whole)
  f_is_whole_word : Addr
  fd_is_whole_word : FuncData
  F_is_whole_word : Fun K "is_whole_word" "is_whole_word" s_is_whole_word f_is_whole_word fd_is_whole_word
  b_is_whole_word : Binds K fd_is_whole_word ["text"] []
  g_is_whole_word : mg "is_whole_word" = some (.ref f_is_whole_word)
  f_is_ratio_word : Addr
  fd_is_ratio_word : FuncData
  F_is_ratio_word : Fun K "is_ratio_word" "is_ratio_word" s_is_ratio_word f_is_ratio_word fd_is_ratio_word
  b_is_ratio_word : Binds K fd_is_ratio_word ["text"] []
  g_is_ratio_word : mg "is_ratio_word" = some (.ref f_is_ratio_word)
  f_is_positive_word : Addr
  fd_is_positive_word : FuncData
  F_is_positive_word : Fun K "_is_positive_word" "_is_positive_word" s_is_positive_word f_is_positive_word fd_is_positive_word
  b_is_positive_word : Binds K fd_is_positive_word ["text"] []
  g_is_positive_word : mg "_is_positive_word" = some (.ref f_is_positive_word)
  f_ratio : Addr
  fd_ratio : FuncData
  F_ratio : FunD K "ratio" "ratio" (defArgs s_ratio) (defBody s_ratio) (defScope s_ratio) D_ratio [] f_ratio fd_ratio
  g_ratio : mg "ratio" = some (.ref f_ratio)
  f_ratio_text : Addr
  fd_ratio_text : FuncData
  F_ratio_text : Fun K "ratio_text" "ratio_text" s_ratio_text f_ratio_text fd_ratio_text
  b_ratio_text : Binds K fd_ratio_text ["a"] []
  g_ratio_text : mg "ratio_text" = some (.ref f_ratio_text)
  f_parse_ratio : Addr
  fd_parse_ratio : FuncData
  F_parse_ratio : Fun K "parse_ratio" "parse_ratio" s_parse_ratio f_parse_ratio fd_parse_ratio
  b_parse_ratio : Binds K fd_parse_ratio ["text"] []
  g_parse_ratio : mg "parse_ratio" = some (.ref f_parse_ratio)
  f_pool : Addr
  fd_pool : FuncData
  F_pool : Fun K "_law_pool" "_law_pool" s_pool f_pool fd_pool
  b_pool : Binds K fd_pool ["_law_script", "_law_k"] []
  g_pool : mg "_law_pool" = some (.ref f_pool)
  f_take : Addr
  fd_take : FuncData
  F_take : Fun K "_law_take" "_law_take" s_take f_take fd_take
  b_take : Binds K fd_take ["_law_pool_here", "_law_size"] []
  g_take : mg "_law_take" = some (.ref f_take)
  f_whole : Addr
  fd_whole : FuncData
  F_whole : Fun K "_law_whole" "_law_whole" s_whole f_whole fd_whole
  b_whole : Binds K fd_whole ["_law_value"] []
  g_whole : mg "_law_whole" = some (.ref f_whole)
  f_sized : Addr
  fd_sized : FuncData
  F_sized : Fun K "_law_sized" "_law_sized" s_sized f_sized fd_sized
  b_sized : Binds K fd_sized ["_law_pool_here", "_law_pieces"] []
  g_sized : mg "_law_sized" = some (.ref f_sized)
  f_lowest : Addr
  fd_lowest : FuncData
  F_lowest : Fun K "_law_lowest" "_law_lowest" s_lowest f_lowest fd_lowest
  b_lowest : Binds K fd_lowest ["_law_p", "_law_q"] []
  g_lowest : mg "_law_lowest" = some (.ref f_lowest)
  f_digits : Addr
  fd_digits : FuncData
  F_digits : Fun K "_law_digits" "_law_digits" s_digits f_digits fd_digits
  b_digits : Binds K fd_digits ["_law_pool_here", "_law_most"] []
  g_digits : mg "_law_digits" = some (.ref f_digits)
  f_word : Addr
  fd_word : FuncData
  F_word : Fun K "_law_word" "_law_word" s_word f_word fd_word
  b_word : Binds K fd_word ["_law_pool_here", "_law_most"] []
  g_word : mg "_law_word" = some (.ref f_word)
  f_signs : Addr
  fd_signs : FuncData
  F_signs : Fun K "_law_signs" "_law_signs" s_signs f_signs fd_signs
  b_signs : Binds K fd_signs [] []
  g_signs : mg "_law_signs" = some (.ref f_signs)
  f_sign : Addr
  fd_sign : FuncData
  F_sign : Fun K "_law_sign" "_law_sign" s_sign f_sign fd_sign
  b_sign : Binds K fd_sign ["_law_pool_here"] []
  g_sign : mg "_law_sign" = some (.ref f_sign)
  f_spoilt : Addr
  fd_spoilt : FuncData
  F_spoilt : Fun K "_law_spoilt" "_law_spoilt" s_spoilt f_spoilt fd_spoilt
  b_spoilt : Binds K fd_spoilt ["_law_pool_here", "_law_text_here"] []
  g_spoilt : mg "_law_spoilt" = some (.ref f_spoilt)
  f_odd : Addr
  fd_odd : FuncData
  F_odd : Fun K "_law_odd" "_law_odd" s_odd f_odd fd_odd
  b_odd : Binds K fd_odd ["_law_pool_here"] []
  g_odd : mg "_law_odd" = some (.ref f_odd)
  f_free : Addr
  fd_free : FuncData
  F_free : Fun K "_law_free" "_law_free" s_free f_free fd_free
  b_free : Binds K fd_free ["_law_pool_here"] []
  g_free : mg "_law_free" = some (.ref f_free)
  f_text : Addr
  fd_text : FuncData
  F_text : Fun K "_law_text" "_law_text" s_text f_text fd_text
  b_text : Binds K fd_text ["_law_pool_here"] []
  g_text : mg "_law_text" = some (.ref f_text)
  f_step : Addr
  fd_step : FuncData
  F_step : Fun K "_law_step" "_law_step" s_step f_step fd_step
  b_step : Binds K fd_step ["_law_state", "_law_sign_here"] []
  g_step : mg "_law_step" = some (.ref f_step)
  f_read : Addr
  fd_read : FuncData
  F_read : Fun K "_law_read" "_law_read" s_read f_read fd_read
  b_read : Binds K fd_read ["_law_text_here"] []
  g_read : mg "_law_read" = some (.ref f_read)
  f_is : Addr
  fd_is : FuncData
  F_is : Fun K "_law_is" "_law_is" s_is f_is fd_is
  b_is : Binds K fd_is ["_law_told", "_law_top", "_law_bottom"] []
  g_is : mg "_law_is" = some (.ref f_is)
  f_refused : Addr
  fd_refused : FuncData
  F_refused : Fun K "_law_refused" "_law_refused" s_refused f_refused fd_refused
  b_refused : Binds K fd_refused ["_law_text_here"] []
  g_refused : mg "_law_refused" = some (.ref f_refused)
  f_refused_by_base : Addr
  fd_refused_by_base : FuncData
  F_refused_by_base : Fun K "_law_refused_by_base" "_law_refused_by_base" s_refused_by_base f_refused_by_base fd_refused_by_base
  b_refused_by_base : Binds K fd_refused_by_base ["_law_text_here"] []
  g_refused_by_base : mg "_law_refused_by_base" = some (.ref f_refused_by_base)
  f_asked : Addr
  fd_asked : FuncData
  F_asked : Fun K "_law_asked" "_law_asked" s_asked f_asked fd_asked
  b_asked : Binds K fd_asked ["_law_text_here", "_law_how"] []
  g_asked : mg "_law_asked" = some (.ref f_asked)
  f_written : Addr
  fd_written : FuncData
  F_written : Fun K "_law_written" "_law_written" s_written f_written fd_written
  b_written : Binds K fd_written ["_law_pair"] []
  g_written : mg "_law_written" = some (.ref f_written)
  f_law : Addr
  fd_law : FuncData
  F_law : Fun K "law" "law" s_law f_law fd_law
  b_law : Binds K fd_law ["_law_script"] []
  g_law : mg "law" = some (.ref f_law)
  m_len : mg "len" = none
  m_int : mg "int" = none
  m_abs : mg "abs" = none
  m_min : mg "min" = none
  m_max : mg "max" = none
  m_isinstance : mg "isinstance" = none
  m_range : mg "range" = none
  m_bool : mg "bool" = none
  m_str : mg "str" = none
  m_tuple : mg "tuple" = none
  m_reversed : mg "reversed" = none
  m_ValueError : mg "ValueError" = none
  m_divmod : mg "divmod" = none
  C_BadText : Addr
  c_BadText : mg "BadText" = some (.ref C_BadText)
  C_PaperError : Addr
  c_PaperError : mg "PaperError" = some (.ref C_PaperError)
  C_BadLiteral : Addr
  c_BadLiteral : mg "BadLiteral" = some (.ref C_BadLiteral)
  C_BadModel : Addr
  c_BadModel : mg "BadModel" = some (.ref C_BadModel)
  C_BadName : Addr
  c_BadName : mg "BadName" = some (.ref C_BadName)
  C_BadNode : Addr
  c_BadNode : mg "BadNode" = some (.ref C_BadNode)
  C_BadRatio : Addr
  c_BadRatio : mg "BadRatio" = some (.ref C_BadRatio)
  C_BadSort : Addr
  c_BadSort : mg "BadSort" = some (.ref C_BadSort)
  C_NameTaken : Addr
  c_NameTaken : mg "NameTaken" = some (.ref C_NameTaken)
  C_NoAnswer : Addr
  c_NoAnswer : mg "NoAnswer" = some (.ref C_NoAnswer)
  C_NoLevel : Addr
  c_NoLevel : mg "NoLevel" = some (.ref C_NoLevel)
  C_UnknownName : Addr
  c_UnknownName : mg "UnknownName" = some (.ref C_UnknownName)
  xb_PaperError : X2.XB K C_PaperError
  xo_BadText : X2.XO K C_BadText f_BadText_init "place"
  e_BadText_BadText : PySem.W.exmOne K (.ref C_BadText) (.ref C_BadText) = some true
  e_BadText_PaperError : PySem.W.exmOne K (.ref C_BadText) (.ref C_PaperError) = some true
  k_BadText_BadText : PySem.W.kitOne K (.ref C_BadText) (.ref C_BadText) = some true
  k_BadText_ValueError : PySem.W.kitOne K (.ref C_BadText) (.type "ValueError") = some true
  i_1 : PySem.W.kitAny K (.ref C_BadText) [.ref C_BadLiteral, .ref C_BadModel, .ref C_BadName, .ref C_BadNode, .ref C_BadRatio, .ref C_BadSort] = some false
  i_2 : PySem.W.kitAny K (.ref C_BadText) [.ref C_NameTaken, .ref C_NoAnswer, .ref C_NoLevel, .ref C_UnknownName] = some false
  t_BASE : Tok
  g_BASE : mg "BASE" = some (.int (10 ^ 64) t_BASE)
  t_PIECE : Tok
  g_PIECE : mg "PIECE" = some (.int 64 t_PIECE)
  m_gcd : mg "gcd" = some (.builtin "math.gcd")
end L

namespace L
open PySem PySem.Spec PyProof.Rows L2 Z
section
variable {P : Program} {w : World} {K : PySem.W.Frag} {mg : Str → Option Value} {base : Heap}
def spPool (K : PySem.W.Frag) : Sp := fun vs H Q _ => ∃ (a : Addr) (ns : List Int) (k : Int), vs = [.ref a, .int k] ∧ SqL K H a (ns.map V.int) ∧ ns.length ≤ 1000 ∧ 0 ≤ k ∧ k < 2 ^ 62 ∧ ∀ q o, H q = none → IsPool o → Q (.ref q) (upd H q o)
def spTake : Sp := fun vs H Q _ => ∃ (q : Addr) (o : HO) (n : Int), vs = [.ref q, .int n] ∧ H q = some o ∧ IsPool o ∧ 0 < n ∧ n < 1073741824 ∧ ∀ r o', 0 ≤ r → r < n → IsPool o' → Q (.int r) (upd H q o')
theorem ok_take (T : Txt K mg) : FnOk P w K mg base CX0 1 T.f_take T.fd_take ["_law_pool_here", "_law_size"] spTake := by
  refine T.F_take.ok sc_take (fun vs H Q E h => ?_) (fun cdv A outer s H vs Q E hr h => ?_)
  · obtain ⟨q, o, n, rfl, _⟩ := h
    rfl
  · obtain ⟨q, o, n, rfl, ho, ⟨c, k, b, s', rfl⟩, hn, hn2, hq⟩ := h
    refine ⟨_, (pss_cons (ps_set (i := 2) sc_take.nd rfl (.inl rfl) (pe_ix ix_list (pv 0) pe_int (fun _ _ => rfl)))
 (pss_cons (ps_asg (pe_op op_add (pv 2) pe_int) (pg_sub (pv 0) pe_int set_list))
 (pss_cons (ps_set (i := 3) sc_take.nd rfl (.inl rfl) (pe_ix ix_list (pv 0) pe_int (fun _ _ => rfl)))
 (pss_cons (ps_if (PW.pt (pw_and (pt_val (pe_ix ix_list (pv 0) pe_int (fun _ _ => rfl))) (pw_and1 (pt_cmpR op_gt (pv 3) pe_int (nomark _))))) (pss_cons (ps_asg (pe_op op_fdiv (pv 3) (pv 1)) (pg_sub (pv 0) pe_int set_list))
 (pss_one (ps_ret (pe_op op_mod (pe_callTy call_int1 (by rfl) T.m_int (by decide +kernel) (pa_cons (pv 3) pa_nil)) (pv 1))))) pss_nil)
 (pss_cons (ps_if (pt_val (pe_ix ix_list (pv 0) pe_int (fun _ _ => rfl))) (pss_one (ps_set (i := 3) sc_take.nd rfl (.inl rfl) (pe_ix ix_list (pv 0) pe_int (fun _ _ => rfl)))) pss_nil)
 (pss_cons (ps_set (i := 4) sc_take.nd rfl (.inl rfl) (pe_op op_mod (pe_callTy call_int1 (by rfl) T.m_int (by decide +kernel) (pa_cons (pe_op op_add (pe_op op_add (pv 3) (pe_op op_mul pe_int (pv 2))) pe_int) pa_nil)) pe_int))
 (pss_cons (ps_set (i := 4) sc_take.nd rfl (.inl rfl) (pe_op op_mod (pe_callTy call_int1 (by rfl) T.m_int (by decide +kernel) (pa_cons (pe_op op_mul (pv 4) (pe_op op_add (pv 4) pe_int)) pa_nil)) pe_int))
 (pss_cons (ps_set (i := 4) sc_take.nd rfl (.inl rfl) (pe_op op_mod (pe_callTy call_int1 (by rfl) T.m_int (by decide +kernel) (pa_cons (pe_op op_add (pe_op op_mul (pv 4) (pe_op op_add (pv 4) pe_int)) (pe_op op_mul pe_int (pv 2))) pa_nil)) pe_int))
 (pss_one (ps_ret (pe_op op_mod (pe_callTy call_int1 (by rfl) T.m_int (by decide +kernel) (pa_cons (pe_op op_fdiv (pv 4) pe_int) pa_nil)) (pv 1)))))))))))), ?_⟩
    refine Z.w_start (σ' := [some (.ref q), some (.int n), none, none, none]) rfl ?_
    walk_at "w"
    cases b with
    | true =>
      walk_at "w"
      walk_at "wi"
      all_goals walk_at "w"
      all_goals exact hq _ _ (Int.emod_nonneg _ (by omega)) (Int.emod_lt_of_pos _ hn) ⟨_, _, _, _, rfl⟩
    | false =>
      walk_at "w"
      all_goals exact hq _ _ (Int.emod_nonneg _ (by omega)) (Int.emod_lt_of_pos _ hn) ⟨_, _, _, _, rfl⟩
theorem ok_pool (T : Txt K mg) : FnOk P w K mg base CX0 1 T.f_pool T.fd_pool ["_law_script", "_law_k"] (spPool K) := by
  refine T.F_pool.ok sc_pool (fun vs H Q E h => ?_) (fun cdv A outer s H vs Q E hr h => ?_)
  · obtain ⟨a, ns, k, rfl, _⟩ := h
    rfl
  · obtain ⟨a, ns, k, rfl, hS, hl, hk, hk2, hq⟩ := h
    refine ⟨_, (pss_cons (ps_set (i := 2) sc_pool.nd rfl (.inl rfl) (pe_op op_add (pe_op op_mul pe_int (pv 1)) pe_int))
 (pss_cons (ps_set (i := 3) sc_pool.nd rfl (.inl rfl) (pe_op op_add (pe_op op_mul pe_int (pv 1)) pe_int))
 (pss_cons (ps_if (pt_cmpR op_lt (pv 1) (pe_callB call_len_seq (by rfl) T.m_len (by decide +kernel) (pa_cons (pv 0) pa_nil)) (nomark _)) (pss_one (ps_set (i := 2) sc_pool.nd rfl (.inl rfl) (pe_ix ix_list (pv 0) (pv 1) (fun _ _ => rfl)))) pss_nil)
 (pss_cons (ps_if (pt_cmpR op_lt (pe_op op_add (pv 1) pe_int) (pe_callB call_len_seq (by rfl) T.m_len (by decide +kernel) (pa_cons (pv 0) pa_nil)) (nomark _)) (pss_one (ps_set (i := 3) sc_pool.nd rfl (.inl rfl) (pe_ix ix_list (pv 0) (pe_op op_add (pv 1) pe_int) (fun _ _ => rfl)))) pss_nil)
 (pss_one (ps_ret (pe_lst (pa_cons (pv 2) (pa_cons pe_int (pa_cons (pe_cmpR op_ge (pv 2) (pe_op op_pow pe_int pe_int) (nomark _)) (pa_cons (pv 3) pa_nil))))))))))), ?_⟩
    refine Z.w_start (σ' := [some (.ref a), some (.int k), none, none]) rfl ?_
    by_cases h1 : k < ns.length
    · obtain ⟨z1, a1, _⟩ := pick hk h1
      by_cases h2 : k + 1 < ns.length
      · obtain ⟨z2, a2, _⟩ := pick (by omega) h2
        walk_at "w"
        exact hq _ _ (by assumption) ⟨_, _, _, _, rfl⟩
      · walk_at "w"
        exact hq _ _ (by assumption) ⟨_, _, _, _, rfl⟩
    · walk_at "w"
      exact hq _ _ (by assumption) ⟨_, _, _, _, rfl⟩
end
end L

namespace L
open PySem PySem.Spec PyProof.Rows L2 Z
/-! what a draw from the pool at q leaves of the heap -/

def SX (q : Addr) (H H' : Hp) : Prop := ∀ b x, b ≠ q → H b = some x → H' b = some x
theorem SX.refl {q : Addr} (H : Hp) : SX q H H := fun _ _ _ e => e
theorem SX.trans {q : Addr} {H H1 H2 : Hp} (a : SX q H H1) (b : SX q H1 H2) : SX q H H2 := fun c x n e => b c x n (a c x n e)
theorem SX.at {q : Addr} {H H' : Hp} {o : HO} (s : SX q H H') : SX q H (upd H' q o) := fun b x n e => by rw [upd_ne n]; exact s b x n e
theorem SX.fresh {q p : Addr} {H H' : Hp} {o : HO} (s : SX q H H') (h : H' p = none) : SX q H (upd H' p o) := fun b x n e => by
  rw [upd_ne (ne_of_none (s b x n e) h)]
  exact s b x n e
theorem SX.own {q p : Addr} {H H' : Hp} {o : HO} (s : SX q H H') (h : H p = none) : SX q H (upd H' p o) := fun b x n e => by
  rw [upd_ne (ne_of_none e h)]
  exact s b x n e
theorem SX.same {q : Addr} {H H' : Hp} {o : HO} (h : H q = none) (s : SX q (upd H q o) H') : Same H H' := fun b x e => by
  have n : b ≠ q := ne_of_none e h
  exact s b x n (by rw [upd_ne n]; exact e)
theorem SX.free {q p : Addr} {H H' : Hp} {o : HO} (s : SX q H H') (hq : H' q = some o) (h : H' p = none) : H p = none := by
  cases e : H p with
  | none => rfl
  | some x => rw [s p x (Ne.symm (ne_of_none hq h)) e] at h; cases h
theorem SX.of {q : Addr} {H H1 H' : Hp} (s : SX q H H1) (t : Same H1 H') : SX q H H' := fun b x n e => t b x (s b x n e)
/-- the pool has been drawn from, new things may stand -/
def DX (q : Addr) (H H' : Hp) : Prop := SX q H H' ∧ ∃ o, H' q = some o ∧ IsPool o
theorem DX.take {q : Addr} {H H' : Hp} {o : HO} (s : SX q H H') (hp : IsPool o) : DX q H (upd H' q o) := ⟨s.at, o, upd_same, hp⟩
theorem DX.one {q : Addr} {H : Hp} {o : HO} (hp : IsPool o) : DX q H (upd H q o) := ⟨(SX.refl H).at, o, upd_same, hp⟩
theorem DX.trans {q : Addr} {H H1 H2 : Hp} (a : DX q H H1) (b : DX q H1 H2) : DX q H H2 := ⟨a.1.trans b.1, b.2⟩
theorem DX.fresh {q p : Addr} {H H' : Hp} {o : HO} (s : DX q H H') (h : H' p = none) : DX q H (upd H' p o) := by
  obtain ⟨a, o', b, c⟩ := s
  exact ⟨a.fresh h, o', by rw [upd_ne (ne_of_none b h)]; exact b, c⟩
theorem DX.same {q : Addr} {H H' : Hp} {o : HO} (h : H q = none) (s : DX q (upd H q o) H') : Same H H' := SX.same h s.1
end L

namespace L
open PySem PySem.Spec PyProof.Rows L2 Z
section
variable {P : Program} {w : World} {K : PySem.W.Frag} {mg : Str → Option Value} {base : Heap}
def spWhole : Sp := fun vs H Q _ => ∃ i : Int, vs = [.int i] ∧ Q (.bl true) H
theorem use_whole {i : Int} {H : Hp} {Q : VK} {E : XK} (q : Q (.bl true) H) : spWhole [.int i] H Q E := ⟨i, rfl, q⟩
theorem ok_whole (T : Txt K mg) : FnOk P w K mg base CX0 1 T.f_whole T.fd_whole ["_law_value"] spWhole := by
  refine T.F_whole.ok sc_whole (fun vs H Q E h => ?_) (fun cdv A outer s H vs Q E hr h => ?_)
  · obtain ⟨i, rfl, _⟩ := h
    rfl
  · obtain ⟨i, rfl, hq⟩ := h
    refine ⟨_, (pss_one (ps_ret (pe_and (pe_callB call_isi (by rfl) T.m_isinstance (by decide +kernel) (pa_cons (pv 0) (pa_cons (pe_bltn (v := .ty "int") (by rfl) T.m_int (by decide +kernel) rfl) pa_nil))) (pe_one (pe_not (pe_callB call_isi (by rfl) T.m_isinstance (by decide +kernel) (pa_cons (pv 0) (pa_cons (pe_bltn (v := .ty "bool") (by rfl) T.m_bool (by decide +kernel) rfl) pa_nil)))))))), ?_⟩
    refine Z.w_start (σ' := [some (.int i)]) rfl ?_
    walk_at "w"
    exact hq
end
end L

namespace L
open PySem PySem.Spec PyProof.Rows L2 Z
section
variable {P : Program} {w : World} {K : PySem.W.Frag} {mg : Str → Option Value} {base : Heap}
theorem use_take {q : Addr} {o : HO} {n : Int} {H : Hp} {Q : VK} {E : XK} (h : H q = some o) (hp : IsPool o) (h1 : 0 < n) (h2 : n < 1073741824) (hq : ∀ r o', 0 ≤ r → r < n → IsPool o' → Q (.int r) (upd H q o')) : spTake [.ref q, .int n] H Q E := ⟨q, o, n, rfl, h, hp, h1, h2, hq⟩
theorem use_takeU {q : Addr} {o : HO} {n : Int} {H : Hp} {Q : VK} {E : XK} (hp : IsPool o) (h1 : 0 < n) (h2 : n < 1073741824) (hq : ∀ r o', 0 ≤ r → r < n → IsPool o' → Q (.int r) (upd H q o')) : spTake [.ref q, .int n] (upd H q o) Q E := ⟨q, o, n, rfl, upd_same, hp, h1, h2, fun r o' a b c => by rw [upd_upd]; exact hq r o' a b c⟩
end
end L
local macro_rules | `(tactic| walk_at "w1") => `(tactic| first
  | ((with_reducible refine' L.use_takeU ?wp ?wa ?wb (fun r o' h0 h1 hp => ?_)); (case wp => assumption); (case wa => omega); (case wb => omega))
  | ((with_reducible refine' L.use_take ?wh ?wp ?wa ?wb (fun r o' h0 h1 hp => ?_)); (case wh => walk_at "hp"); (case wp => assumption); (case wa => omega); (case wb => omega))
  | with_reducible refine L.use_whole ?_)
namespace L
open PySem PySem.Spec PyProof.Rows L2 Z
section
variable {P : Program} {w : World} {K : PySem.W.Frag} {mg : Str → Option Value} {base : Heap}
def spSized : Sp := fun vs H Q _ => ∃ (q : Addr) (o : HO) (n : Int), vs = [.ref q, .int n] ∧ H q = some o ∧ IsPool o ∧ 0 ≤ n ∧ n ≤ 3 ∧ ∀ r o', -(10 ^ 18 : Int) < r → r < 10 ^ 18 → IsPool o' → Q (.int r) (upd H q o')
theorem ok_sized (T : Txt K mg) : FnOk P w K mg base CX0 2 T.f_sized T.fd_sized ["_law_pool_here", "_law_pieces"] spSized := by
  have G_take := ok_take (P := P) (w := w) (base := base) T
  refine T.F_sized.ok sc_sized (fun vs H Q E h => ?_) (fun cdv A outer s H vs Q E hr h => ?_)
  · obtain ⟨q, o, n, rfl, _⟩ := h
    rfl
  · obtain ⟨q, o, n', rfl, ho, hp, hn0, hn, hq⟩ := h
    obtain ⟨n, rfl⟩ := Int.eq_ofNat_of_zero_le hn0
    refine ⟨_, (pss_cons (ps_set (i := 2) sc_sized.nd rfl (.inl rfl) (pe_call G_take (hr.mono (by decide)) (by rfl) T.g_take T.F_take.kp T.b_take .nil pass0 (pa_cons (pv 0) (pa_cons pe_int pa_nil))))
 (pss_cons (ps_set (i := 3) sc_sized.nd rfl (.inl rfl) (pe_call G_take (hr.mono (by decide)) (by rfl) T.g_take T.F_take.kp T.b_take .nil pass0 (pa_cons (pv 0) (pa_cons pe_int pa_nil))))
 (pss_cons (ps_if (pt_cmpR op_eq (pv 2) pe_int (nomark _)) (pss_one (ps_set (i := 3) sc_sized.nd rfl (.inl rfl) (pe_call G_take (hr.mono (by decide)) (by rfl) T.g_take T.F_take.kp T.b_take .nil pass0 (pa_cons (pv 0) (pa_cons pe_int pa_nil))))) pss_nil)
 (pss_cons (ps_if (pt_cmpR op_eq (pv 2) pe_int (nomark _)) (pss_one (ps_set (i := 3) sc_sized.nd rfl (.inl rfl) (pe_call G_take (hr.mono (by decide)) (by rfl) T.g_take T.F_take.kp T.b_take .nil pass0 (pa_cons (pv 0) (pa_cons pe_int pa_nil))))) pss_nil)
 (pss_cons (ps_if (pt_cmpR op_eq (pv 2) pe_int (nomark _)) (pss_cons (ps_set (i := 3) sc_sized.nd rfl (.inl rfl) pe_int)
 (pss_one (ps_for PassesOwn.never rfl (pi_range1 (by rfl) T.m_range (pa_cons (pv 1) pa_nil)) (pg_name (i := 4) sc_sized.nd rfl (.inl rfl)) (pss_one (ps_set (i := 3) sc_sized.nd rfl (.inl rfl) (pe_op op_add (pe_op op_mul (pv 3) pe_int) (pe_call G_take (hr.mono (by decide)) (by rfl) T.g_take T.F_take.kp T.b_take .nil pass0 (pa_cons (pv 0) (pa_cons pe_int pa_nil))))))))) pss_nil)
 (pss_cons (ps_if (pt_cmpR op_eq (pe_call G_take (hr.mono (by decide)) (by rfl) T.g_take T.F_take.kp T.b_take .nil pass0 (pa_cons (pv 0) (pa_cons pe_int pa_nil))) pe_int (nomark _)) (pss_one (ps_ret (pe_un un_neg (pv 3)))) pss_nil)
 (pss_one (ps_ret (pv 3))))))))), ?_⟩
    refine Z.w_start (σ' := [some (.ref q), some (.int n), none, none, none]) rfl ?_
    walk_at "w"
    walk_at "wi"
    · walk_at "w"
      walk_at "wi" <;> walk_at "w" <;> exact hq _ _ (by omega) (by omega) (by assumption)
    · walk_at "w"
      walk_at "wi"
      · walk_at "w"
        walk_at "wi" <;> walk_at "w" <;> exact hq _ _ (by omega) (by omega) (by assumption)
      · walk_at "w"
        walk_at "wi"
        · walk_at "w"
          refine ⟨by omega, by omega, ?_⟩
          refine for_range (lo := 0) (n := n) (fun i σ H' => ∃ (t : Int) (o' : HO) (x2 x4 : Option V), σ = [some (.ref q), some (.int n), x2, some (.int t), x4] ∧ H' = upd H q o' ∧ IsPool o' ∧ 0 ≤ t ∧ t < 1000000 ^ i) ?_ ?_ ?_
          · exact ⟨0, _, _, _, rfl, rfl, by assumption, by omega, by omega⟩
          · rintro i σ H' hi ⟨t, o1, x2, x4, rfl, rfl, hp1, ht, ht2⟩
            walk_at "w"
            refine ⟨_, _, _, _, rfl, rfl, by assumption, by omega, ?_⟩
            rw [Int.pow_succ]
            omega
          · rintro σ H' ⟨t, o1, x2, x4, rfl, rfl, hp1, ht, ht2⟩
            have h18 : t < 10 ^ 18 := by
              rcases (show n = 0 ∨ n = 1 ∨ n = 2 ∨ n = 3 by omega) with rfl | rfl | rfl | rfl <;> omega
            walk_at "w"
            walk_at "wi" <;> walk_at "w" <;> exact hq _ _ (by omega) (by omega) (by assumption)
        · walk_at "w"
          walk_at "wi" <;> walk_at "w" <;> exact hq _ _ (by omega) (by omega) (by assumption)
theorem use_sized {q : Addr} {o : HO} {n : Int} {H : Hp} {Q : VK} {E : XK} (h : H q = some o) (hp : IsPool o) (h1 : 0 ≤ n) (h2 : n ≤ 3) (hq : ∀ r o', -(10 ^ 18 : Int) < r → r < 10 ^ 18 → IsPool o' → Q (.int r) (upd H q o')) : spSized [.ref q, .int n] H Q E := ⟨q, o, n, rfl, h, hp, h1, h2, hq⟩
theorem use_sizedU {q : Addr} {o : HO} {n : Int} {H : Hp} {Q : VK} {E : XK} (hp : IsPool o) (h1 : 0 ≤ n) (h2 : n ≤ 3) (hq : ∀ r o', -(10 ^ 18 : Int) < r → r < 10 ^ 18 → IsPool o' → Q (.int r) (upd H q o')) : spSized [.ref q, .int n] (upd H q o) Q E := ⟨q, o, n, rfl, upd_same, hp, h1, h2, fun r o' a b c => by rw [upd_upd]; exact hq r o' a b c⟩
end
end L

local macro_rules | `(tactic| walk_at "w1") => `(tactic| first
  | ((with_reducible refine' L.use_takeU ?wp ?wa ?wb (fun r o' h0 h1 hp => ?_)); (case wp => assumption); (case wa => omega); (case wb => omega))
  | ((with_reducible refine' L.use_take ?wh ?wp ?wa ?wb (fun r o' h0 h1 hp => ?_)); (case wh => walk_at "hp"); (case wp => assumption); (case wa => omega); (case wb => omega))
  | ((with_reducible refine' L.use_sizedU ?wp ?wa ?wb (fun r o' h0 h1 hp => ?_)); (case wp => assumption); (case wa => walk_at "sz"); (case wb => walk_at "sz"))
  | ((with_reducible refine' L.use_sized ?wh ?wp ?wa ?wb (fun r o' h0 h1 hp => ?_)); (case wh => walk_at "hp"); (case wp => assumption); (case wa => walk_at "sz"); (case wb => walk_at "sz"))
  | with_reducible refine L.use_whole ?_
  | fail "w1")

namespace M
theorem mulb {a b : Int} (h1 : -(2 ^ 20) ≤ a) (h2 : a ≤ 2 ^ 20) (h3 : -(2 ^ 60) < b) (h4 : b < 2 ^ 60) : -(2 ^ 90) < a * b ∧ a * b < 2 ^ 90 := by
  have ha : a.natAbs ≤ 2 ^ 20 := by omega
  have hb : b.natAbs ≤ 2 ^ 60 := by omega
  have h := Nat.mul_le_mul ha hb
  rw [← Int.natAbs_mul] at h
  omega
theorem bits_lt (b : Nat) : b < 2 ^ PySem.Builtin.Int.intBits (b : Int) := by
  unfold PySem.Builtin.Int.intBits
  by_cases h : b = 0
  · subst h; decide
  · have e : ((b : Int) == 0) = false := by
      simp only [beq_eq_false_iff_ne]
      omega
    rw [e]
    simp only [Bool.false_eq_true, if_false, Int.natAbs_natCast]
    exact Nat.lt_log2_self
theorem half {x y : Nat} (h : y < x) (hy : 0 < y) : 2 * (x % y) < x := by
  have h1 := Nat.mod_lt x hy
  have h2 := Nat.div_add_mod x y
  have h3 : 1 ≤ x / y := (Nat.le_div_iff_mul_le hy).mpr (by omega)
  have h4 : y * 1 ≤ y * (x / y) := Nat.mul_le_mul_left y h3
  omega
/-- Euclid's pairs: A, B the first, L bits of B, i turns -/
def Eu (A B L i x y : Nat) : Prop := Nat.gcd x y = Nat.gcd A B ∧ (i = 0 → x = A ∧ y = B) ∧ (1 ≤ i → y < x ∧ x * y * 2 ^ (i - 1) < 2 ^ (2 * L))
theorem eu_zero (A B L : Nat) : Eu A B L 0 A B := ⟨rfl, fun _ => ⟨rfl, rfl⟩, fun h => by omega⟩
theorem eu_next {A B L i x y : Nat} (hB : B < 2 ^ L) (h : Eu A B L i x y) (hy : y ≠ 0) : Eu A B L (i + 1) y (x % y) := by
  obtain ⟨g, h0, h1⟩ := h
  have hy' : 0 < y := by omega
  have hm := Nat.mod_lt x hy'
  refine ⟨?_, fun z => by omega, fun _ => ⟨hm, ?_⟩⟩
  · rw [← g, Nat.gcd_comm x y, Nat.gcd_rec y x]
    exact (Nat.gcd_comm _ _)
  · show y * (x % y) * 2 ^ (i + 1 - 1) < 2 ^ (2 * L)
    rw [Nat.add_sub_cancel]
    by_cases hi : i = 0
    · obtain ⟨rfl, rfl⟩ := h0 hi
      subst hi
      have e : 2 ^ (2 * L) = 2 ^ L * 2 ^ L := by rw [Nat.two_mul, Nat.pow_add]
      rw [e, Nat.pow_zero, Nat.mul_one]
      exact Nat.mul_lt_mul'' hB (by omega)
    · obtain ⟨hlt, hb⟩ := h1 (by omega)
      have hh := half hlt hy'
      have e : 2 ^ i = 2 * 2 ^ (i - 1) := by
        rw [show i = (i - 1) + 1 by omega, Nat.pow_succ, Nat.mul_comm]
        simp
      rw [e]
      have h5 : y * (x % y) * (2 * 2 ^ (i - 1)) = (2 * (x % y)) * y * 2 ^ (i - 1) := by
        simp only [Nat.mul_comm, Nat.mul_left_comm, Nat.mul_assoc]
      rw [h5]
      refine Nat.lt_of_le_of_lt ?_ hb
      exact Nat.mul_le_mul_right _ (Nat.mul_le_mul_right _ (by omega))
theorem eu_end {A B L i x y : Nat} (hi : i = 2 * L + 5) (h : Eu A B L i x y) : y = 0 := by
  obtain ⟨_, _, h1⟩ := h
  obtain ⟨hlt, hb⟩ := h1 (by omega)
  by_cases hy : y = 0
  · exact hy
  · exfalso
    have h2 : 1 ≤ x * y := Nat.mul_pos (by omega) (by omega)
    have h3 : 2 ^ (2 * L) ≤ 2 ^ (i - 1) := Nat.pow_le_pow_right (by decide) (by omega)
    have h4 : 1 * 2 ^ (i - 1) ≤ x * y * 2 ^ (i - 1) := Nat.mul_le_mul_right _ h2
    omega
theorem eu_gcd {A B L i x : Nat} (h : Eu A B L i x 0) : x = Nat.gcd A B := by
  have := h.1
  rw [Nat.gcd_zero_right] at this
  exact this
/-- what ratio makes of p / q -/
def RatOf (p q a b : Int) : Prop := 1 ≤ b ∧ Nat.gcd a.natAbs b.natAbs = 1 ∧ a * q = p * b ∧ a.natAbs ≤ p.natAbs ∧ b.natAbs ≤ q.natAbs
theorem rat_pos {p q : Int} (hq : 0 < q) : RatOf p q (p / ((Nat.gcd p.natAbs q.natAbs : Nat) : Int)) (q / ((Nat.gcd p.natAbs q.natAbs : Nat) : Int)) := by
  generalize hg : Nat.gcd p.natAbs q.natAbs = g
  have g0 : 0 < g := by rw [← hg]; exact Nat.gcd_pos_of_pos_right _ (by omega)
  have d1 : (g : Int) ∣ p := by
    rw [← hg]
    exact Int.ofNat_dvd_left.mpr (Nat.gcd_dvd_left _ _)
  have d2 : (g : Int) ∣ q := by
    rw [← hg]
    exact Int.ofNat_dvd_left.mpr (Nat.gcd_dvd_right _ _)
  obtain ⟨a, ha⟩ := d1
  obtain ⟨b, hb⟩ := d2
  have gz : (g : Int) ≠ 0 := by omega
  have e1 : p / (g : Int) = a := by rw [ha]; exact Int.mul_ediv_cancel_left _ gz
  have e2 : q / (g : Int) = b := by rw [hb]; exact Int.mul_ediv_cancel_left _ gz
  rw [e1, e2]
  have hbp : 0 < b := by
    rcases Int.lt_or_le 0 b with h | h
    · exact h
    · exfalso
      have : (g : Int) * b ≤ 0 := Int.mul_nonpos_of_nonneg_of_nonpos (by omega) h
      omega
  have np : p.natAbs = g * a.natAbs := by rw [ha, Int.natAbs_mul, Int.natAbs_natCast]
  have nq : q.natAbs = g * b.natAbs := by rw [hb, Int.natAbs_mul, Int.natAbs_natCast]
  refine ⟨by omega, ?_, ?_, ?_, ?_⟩
  · have h := hg
    rw [np, nq, Nat.gcd_mul_left] at h
    exact Nat.eq_of_mul_eq_mul_left g0 (by rw [h, Nat.mul_one])
  · rw [ha, hb]
    simp only [Int.mul_comm, Int.mul_left_comm, Int.mul_assoc]
  · rw [np]
    exact Nat.le_mul_of_pos_left _ g0
  · rw [nq]
    exact Nat.le_mul_of_pos_left _ g0
theorem rat_neg {p q : Int} (hq : q < 0) : RatOf p q (-p / ((Nat.gcd (-p).natAbs (-q).natAbs : Nat) : Int)) (-q / ((Nat.gcd (-p).natAbs (-q).natAbs : Nat) : Int)) := by
  obtain ⟨h1, h2, h3, h4, h5⟩ := rat_pos (p := -p) (q := -q) (by omega)
  refine ⟨h1, h2, ?_, by omega, by omega⟩
  rw [Int.mul_neg, Int.neg_mul] at h3
  exact Int.neg_inj.mp h3
end M

namespace L
open PySem PySem.Spec PyProof.Rows L2 Z M
section
variable {P : Program} {w : World} {K : PySem.W.Frag} {mg : Str → Option Value} {base : Heap}
/-- (p // g, q // g) -/
def lowP (p q : Int) : Int := p / ((Nat.gcd p.natAbs q.natAbs : Nat) : Int)
def lowQ (p q : Int) : Int := q / ((Nat.gcd p.natAbs q.natAbs : Nat) : Int)
def spLowest : Sp := fun vs H Q _ => ∃ p q : Int, vs = [.int p, .int q] ∧ 0 < q ∧ p.natAbs < 2 ^ 200 ∧ q.natAbs < 2 ^ 200 ∧ ∀ t, H t = none → Q (.ref t) (upd H t (.tup [.int (lowP p q), .int (lowQ p q)]))
theorem ok_lowest (T : Txt K mg) : FnOk P w K mg base CX0 1 T.f_lowest T.fd_lowest ["_law_p", "_law_q"] spLowest := by
  refine T.F_lowest.ok sc_lowest (fun vs H Q E h => ?_) (fun cdv A outer s H vs Q E hr h => ?_)
  · obtain ⟨a, b, rfl, _⟩ := h
    rfl
  · obtain ⟨p, q, rfl, h0, hp, hb, hq⟩ := h
    refine ⟨_, (pss_cons (ps_set (i := 2) sc_lowest.nd rfl (.inl rfl) (pe_callB call_abs (by rfl) T.m_abs (by decide +kernel) (pa_cons (pv 0) pa_nil)))
 (pss_cons (ps_set (i := 3) sc_lowest.nd rfl (.inl rfl) (pv 1))
 (pss_cons (ps_for PassesOwn.never rfl (pi_range1 (by rfl) T.m_range (pa_cons (pe_op op_add (pe_op op_mul pe_int (pe_bits (pv 3))) pe_int) pa_nil)) (pg_name (i := 4) sc_lowest.nd rfl (.inl rfl)) (pss_cons (ps_if (pt_cmpR op_eq (pv 3) pe_int (nomark _)) (pss_one ps_break) pss_nil)
 (pss_one (ps_par (i := 2) (j := 3) (by rfl) sc_lowest.nd rfl rfl (by decide) rfl rfl (pa_cons (pv 3) (pa_cons (pe_op op_mod (pe_callTy call_int1 (by rfl) T.m_int (by decide +kernel) (pa_cons (pv 2) pa_nil)) (pe_callTy call_int1 (by rfl) T.m_int (by decide +kernel) (pa_cons (pv 3) pa_nil))) pa_nil)) (by rfl)))))
 (pss_one (ps_ret (pe_tup (pa_cons (pe_op op_fdivW (pv 0) (pv 2)) (pa_cons (pe_op op_fdivW (pv 1) (pv 2)) pa_nil)))))))), ?_⟩
    refine Z.w_start (σ' := [some (.int p), some (.int q), none, none, none]) rfl ?_
    walk_at "w"
    have ea : (if p < 0 then -p else p) = (p.natAbs : Int) := by split <;> omega
    have eb : q = (q.natAbs : Int) := by omega
    rw [ea]
    have hL := bits_lt q.natAbs
    have hL2 : Builtin.Int.intBits (q.natAbs : Int) ≤ 201 := by
      unfold Builtin.Int.intBits
      split
      · omega
      · have := PySem.Flt.log2_lt_of (show 0 < 200 by decide) hb
        rw [Int.natAbs_natCast]
        omega
    rw [← eb] at hL hL2
    generalize hn : Builtin.Int.intBits q = n at *
    refine ⟨by omega, by omega, ?_⟩
    refine for_range (lo := 0) (n := (2 * (n : Int) + 5).toNat) (fun i σ H' => ∃ (u v : Nat) (x4 : Option V), σ = [some (.int p), some (.int q), some (.int u), some (.int v), x4] ∧ H' = H ∧ Eu p.natAbs q.natAbs n i u v) ?_ ?_ ?_
    · exact ⟨p.natAbs, q.natAbs, _, by rw [← eb], rfl, eu_zero _ _ _⟩
    · rintro i σ H' hi ⟨u, v, x2, rfl, rfl, he⟩
      walk_at "w"
      walk_at "wi"
      · rename_i hv
        have hv' : v = 0 := by omega
        subst hv'
        have hg := eu_gcd he
        subst hg
        have g0 : 0 < Nat.gcd p.natAbs q.natAbs := Nat.gcd_pos_of_pos_right _ (by omega)
        have g1 : Nat.gcd p.natAbs q.natAbs ≤ q.natAbs := Nat.le_of_dvd (by omega) (Nat.gcd_dvd_right _ _)
        walk_at "w"
        exact hq _ (by assumption)
      · walk_at "w"
        exact ⟨v, u % v, _, rfl, rfl, eu_next hL he (by omega)⟩
    · rintro σ H' ⟨u, v, x2, rfl, rfl, he⟩
      have hv := eu_end (by omega) he
      subst hv
      have hg := eu_gcd he
      subst hg
      have g0 : 0 < Nat.gcd p.natAbs q.natAbs := Nat.gcd_pos_of_pos_right _ (by omega)
      have g1 : Nat.gcd p.natAbs q.natAbs ≤ q.natAbs := Nat.le_of_dvd (by omega) (Nat.gcd_dvd_right _ _)
      walk_at "w"
      exact hq _ (by assumption)
theorem use_lowest {p q : Int} {H : Hp} {Q : VK} {E : XK} (h0 : 0 < q) (h1 : p.natAbs < 2 ^ 200) (h2 : q.natAbs < 2 ^ 200) (h : ∀ t, H t = none → Q (.ref t) (upd H t (.tup [.int (lowP p q), .int (lowQ p q)]))) : spLowest [.int p, .int q] H Q E := ⟨p, q, rfl, h0, h1, h2, h⟩
/-- in lowest terms, of at most 90 bits -/
def Lo (a b : Int) : Prop := 1 ≤ b ∧ b < 2 ^ 90 ∧ -(2 ^ 90 : Int) < a ∧ a < 2 ^ 90 ∧ Nat.gcd a.natAbs b.natAbs = 1
theorem lo_low {p q : Int} (h0 : 0 < q) (h1 : q < 2 ^ 90) (h2 : -(2 ^ 90 : Int) < p) (h3 : p < 2 ^ 90) : Lo (lowP p q) (lowQ p q) := by
  obtain ⟨r1, r2, r3, r4, r5⟩ := rat_pos (p := p) h0
  exact ⟨r1, by unfold lowQ; omega, by unfold lowP; omega, by unfold lowP; omega, r2⟩
theorem low_self {p q : Int} (h : Nat.gcd p.natAbs q.natAbs = 1) : lowP p q = p ∧ lowQ p q = q := by
  unfold lowP lowQ
  rw [h]
  exact ⟨Int.ediv_one p, Int.ediv_one q⟩
end
end L

namespace L
open PySem PySem.Spec PyProof.Rows L2 Z M
section
variable {P : Program} {w : World} {K : PySem.W.Frag} {mg : Str → Option Value} {base : Heap}
def spRatio : Sp := fun vs H Q _ => ∃ p q : Int, vs = [.int p, .int q] ∧ 0 < q ∧ p.natAbs < 2 ^ 200 ∧ q.natAbs < 2 ^ 200 ∧ ∀ (a b : Int) (t : Addr), RatOf p q a b → H t = none → Q (.ref t) (upd H t (.tup [.int a, .int b]))
theorem ok_ratio (T : Txt K mg) : FnOk P w K mg base CX0 1 T.f_ratio T.fd_ratio ["p", "q"] spRatio := by
  refine T.F_ratio.ok sc_ratio (fun vs H Q E h => ?_) (fun cdv A outer s H vs Q E hr h => ?_)
  · obtain ⟨p, q, rfl, _⟩ := h
    rfl
  · obtain ⟨p, q, rfl, h0, hp, hq, h1⟩ := h
    refine ⟨_, (pss_cons (ps_if (pt_cmpR op_eq (pv 1) pe_int (nomark _)) (pss_one ps_never) pss_nil)
 (pss_cons (ps_if (pt_cmpR op_lt (pv 1) pe_int (nomark _)) (pss_one (ps_par (i := 0) (j := 1) (by rfl) sc_ratio.nd rfl rfl (by decide) rfl rfl (pa_cons (pe_un un_neg (pv 0)) (pa_cons (pe_un un_neg (pv 1)) pa_nil)) (by rfl))) pss_nil)
 (pss_cons (ps_set (i := 2) sc_ratio.nd rfl (.inl rfl) (pe_callBfun cr_gcd (by rfl) T.m_gcd (pa_cons (pv 0) (pa_cons (pv 1) pa_nil))))
 (pss_one (ps_ret (pe_tup (pa_cons (pe_op op_fdivW (pv 0) (pv 2)) (pa_cons (pe_op op_fdivW (pv 1) (pv 2)) pa_nil)))))))), ?_⟩
    refine Z.w_start (σ' := [some (.int p), some (.int q), none]) rfl ?_
    have hg : 0 < Nat.gcd p.natAbs q.natAbs := Nat.gcd_pos_of_pos_right _ (by omega)
    have hg2 : Nat.gcd p.natAbs q.natAbs ≤ q.natAbs := Nat.le_of_dvd (by omega) (Nat.gcd_dvd_right _ _)
    walk_at "w"
    exact h1 _ _ _ (rat_pos h0) (by assumption)
theorem b_ratio2 (T : Txt K mg) : Binds K T.fd_ratio ["p", "q"] [] := by
  obtain ⟨ds, h, b⟩ := T.F_ratio.binds1 (ps := ["p", "q"]) 2 1 (by decide) rfl fun Tt kV doc pm an cdv ct us its h1 h2 => match us, its, h1, h2 with | [_, _], [_], _, _ => ⟨_, rfl, rfl⟩
  cases h
  exact b
theorem use_ratio {p q : Int} {H : Hp} {Q : VK} {E : XK} (h0 : 0 < q) (h1 : p.natAbs < 2 ^ 200) (h2 : q.natAbs < 2 ^ 200) (h : ∀ (a b : Int) (t : Addr), RatOf p q a b → H t = none → Q (.ref t) (upd H t (.tup [.int a, .int b]))) : spRatio [.int p, .int q] H Q E := ⟨p, q, rfl, h0, h1, h2, h⟩
end
end L

namespace MT
open PySem PySem.Spec PyProof.Rows L2
open _root_.SX (S)
section
variable {H : Hp} {Q : VK}
def rStrI : List V → Hp → VK → Prop := fun xs H Q => ∃ i, xs = [.int i] ∧ i.natAbs.log2 < 1920 ∧ Q (.str (toString i)) H
theorem call_strI {X : Cx} : CallR X (.type "str") rStrI := call_str_int
theorem w_strI {i : Int} (hi : i.natAbs < 10 ^ 60) (q : Q (.str (S (nz i))) H) : rStrI [.int i] H Q := ⟨i, rfl, X2.log_int hi, by rw [← S_nz] at q; exact q⟩
end
end MT

namespace L
open PySem PySem.Spec PyProof.Rows L2 Z M MW MT
open _root_.SX (S S_len S_cat S_inj)
section
variable {P : Program} {w : World} {K : PySem.W.Frag} {mg : Str → Option Value} {base : Heap}
def spPos : Sp := fun vs H Q _ => ∃ l : List Nat, vs = [.str (S l)] ∧ Q (.bl (posW l)) H
theorem ok_pos (T : Txt K mg) : FnOk P w K mg base CX0 1 T.f_is_positive_word T.fd_is_positive_word ["text"] spPos := by
  refine T.F_is_positive_word.ok sc_is_positive_word (fun vs H Q E h => ?_) (fun cdv A outer s H vs Q E hr h => ?_)
  · obtain ⟨l, rfl, _⟩ := h
    rfl
  · obtain ⟨l, rfl, hq⟩ := h
    refine ⟨_, (pss_one (ps_ret (pe_and (pe_m0 PySem.F.slot_str_isascii PySem.F.type_str_isascii mt_isascii (pv 0)) (pe_and (pe_m0 PySem.F.slot_str_isdigit PySem.F.type_str_isdigit mt_isdigit (pv 0)) (pe_one (pe_not (pe_m1 PySem.F.slot_str_startswith PySem.F.type_str_startswith mt_startswith (pv 0) (MT.pe_strS (l := [48]) (by decide +kernel))))))))), ?_⟩
    refine Z.w_start (σ' := [some (.str (S l))]) rfl ?_
    rw [pos_txt] at hq
    walk_at "w"
    refine w_iteb (fun hc => ?_) (fun hc => ?_)
    · rw [hc, Bool.true_and] at hq
      walk_at "w"
      refine w_iteb (fun hc => ?_) (fun hc => ?_)
      · rw [hc, Bool.true_and] at hq
        walk_at "w"
        exact hq
      · rw [hc, Bool.false_and] at hq
        exact hq
    · rw [hc, Bool.false_and] at hq
      exact hq
theorem use_pos {l : List Nat} {H : Hp} {Q : VK} {E : XK} (q : Q (.bl (posW l)) H) : spPos [.str (S l)] H Q E := ⟨l, rfl, q⟩
def spWholeW : Sp := fun vs H Q _ => ∃ l : List Nat, vs = [.str (S l)] ∧ l.length ≤ 1000 ∧ Q (.bl (wholeW l)) H
theorem ok_wholeW (T : Txt K mg) : FnOk P w K mg base CX0 2 T.f_is_whole_word T.fd_is_whole_word ["text"] spWholeW := by
  have G_is_positive_word := ok_pos (P := P) (w := w) (base := base) T
  refine T.F_is_whole_word.ok sc_is_whole_word (fun vs H Q E h => ?_) (fun cdv A outer s H vs Q E hr h => ?_)
  · obtain ⟨l, rfl, _⟩ := h
    rfl
  · obtain ⟨l, rfl, hl, hq⟩ := h
    refine ⟨_, (pss_cons (ps_if (pt_cmpR op_eq (pv 0) (MT.pe_strS (l := [48]) (by decide +kernel)) (nomark _)) (pss_one (ps_ret pe_bl)) pss_nil)
 (pss_cons (ps_if (pt_val (pe_m1 PySem.F.slot_str_startswith PySem.F.type_str_startswith mt_startswith (pv 0) (MT.pe_strS (l := [45]) (by decide +kernel)))) (pss_one (ps_ret (pe_call G_is_positive_word (hr.mono (by decide)) (by rfl) T.g_is_positive_word T.F_is_positive_word.kp T.b_is_positive_word .nil pass0 (pa_cons (pe_slice sl_str (pv 0) (po_some pe_int) po_none) pa_nil)))) pss_nil)
 (pss_one (ps_ret (pe_call G_is_positive_word (hr.mono (by decide)) (by rfl) T.g_is_positive_word T.F_is_positive_word.kp T.b_is_positive_word .nil pass0 (pa_cons (pv 0) pa_nil)))))), ?_⟩
    refine Z.w_start (σ' := [some (.str (S l))]) rfl ?_
    walk_at "w"
    refine ⟨rfl, w_bl (w_iteS [48] rfl (fun h => ?_) (fun h => ?_))⟩
    · walk_at "w"
      subst h
      exact hq
    · walk_at "w"
      refine w_iteb (fun hc => ?_) (fun hc => ?_)
      · rw [starts1] at hc
        walk_at "w"
        refine use_pos ?_
        cases l with
        | nil => simp at hc
        | cons c r =>
          have e : c = 45 := by simpa using hc
          subst e
          rw [whole_45] at hq
          exact hq
      · rw [starts1] at hc
        walk_at "w"
        refine use_pos ?_
        cases l with
        | nil => exact hq
        | cons c r =>
          have e : c ≠ 45 := by simpa using hc
          have e2 : wholeW (c :: r) = posW (c :: r) := by
            unfold wholeW
            rw [strip_ot r e, decide_eq_false h, Bool.false_or]
          rw [e2] at hq
          exact hq
theorem use_wholeW {l : List Nat} {H : Hp} {Q : VK} {E : XK} (hl : l.length ≤ 1000) (q : Q (.bl (wholeW l)) H) : spWholeW [.str (S l)] H Q E := ⟨l, rfl, hl, q⟩
theorem part_some {a b : List Nat} (h : 47 ∉ a) : Txt.partition (S (a ++ 47 :: b)) (S [47]) = (S a, S [47], S b) := _root_.SX.partition_some (by simp) (_root_.SX.par_head (sep := []) b h)
theorem part_none {a : List Nat} (h : 47 ∉ a) : Txt.partition (S a) (S [47]) = (S a, S [], S []) := _root_.SX.partition_none (by simp) (_root_.SX.par_head_none h)
def ratioP (l : List Nat) (b : Bool) : Prop := (47 ∉ l ∧ b = false) ∨ ∃ a c, l = a ++ 47 :: c ∧ 47 ∉ a ∧ b = (wholeW a && posW c)
def spRatioW : Sp := fun vs H Q _ => ∃ l : List Nat, vs = [.str (S l)] ∧ l.length ≤ 1000 ∧ ∀ H' b, Same H H' → ratioP l b → Q (.bl b) H'
theorem ok_ratioW (T : Txt K mg) : FnOk P w K mg base CX0 3 T.f_is_ratio_word T.fd_is_ratio_word ["text"] spRatioW := by
  have G_is_positive_word := ok_pos (P := P) (w := w) (base := base) T
  have G_is_whole_word := ok_wholeW (P := P) (w := w) (base := base) T
  refine T.F_is_ratio_word.ok sc_is_ratio_word (fun vs H Q E h => ?_) (fun cdv A outer s H vs Q E hr h => ?_)
  · obtain ⟨l, rfl, _⟩ := h
    rfl
  · obtain ⟨l, rfl, hl, hq⟩ := h
    refine ⟨_, (pss_cons (ps_asg (pe_partition (pv 0) (MT.pe_strS (l := [47]) (by decide +kernel))) (pg_tup (by rfl) (pgs_cons (pg_name (i := 1) sc_is_ratio_word.nd rfl (.inl rfl)) (pgs_cons (pg_name (i := 2) sc_is_ratio_word.nd rfl (.inl rfl)) (pgs_cons (pg_name (i := 3) sc_is_ratio_word.nd rfl (.inl rfl)) pgs_nil)))))
 (pss_one (ps_ret (pe_and (pe_call G_is_whole_word (hr.mono (by decide)) (by rfl) T.g_is_whole_word T.F_is_whole_word.kp T.b_is_whole_word .nil pass0 (pa_cons (pv 1) pa_nil)) (pe_one (pe_call G_is_positive_word (hr.mono (by decide)) (by rfl) T.g_is_positive_word T.F_is_positive_word.kp T.b_is_positive_word .nil pass0 (pa_cons (pv 3) pa_nil))))))), ?_⟩
    refine Z.w_start (σ' := [some (.str (S l)), none, none, none]) rfl ?_
    walk_at "w"
    refine ⟨by rw [S_len]; exact Nat.le_trans hl (by decide), fun p hp => ?_⟩
    have sm : ∀ o, Same H (upd H p o) := fun o => same_of (Same.refl _) hp
    rcases split47 l with hn | ⟨a, b, rfl, hn⟩
    · rw [part_none hn]
      walk_at "w"
      refine use_wholeW hl ?_
      walk_at "w"
      refine w_iteb (fun hc => ?_) (fun hc => ?_)
      · walk_at "w"
        refine use_pos ?_
        exact hq _ _ (sm _) (.inl ⟨hn, rfl⟩)
      · exact hq _ _ (sm _) (.inl ⟨hn, rfl⟩)
    · rw [part_some hn]
      rw [List.length_append] at hl
      walk_at "w"
      refine use_wholeW (by omega) ?_
      walk_at "w"
      refine w_iteb (fun hc => ?_) (fun hc => ?_)
      · walk_at "w"
        refine use_pos ?_
        exact hq _ _ (sm _) (.inr ⟨a, b, rfl, hn, by rw [hc]; rfl⟩)
      · exact hq _ _ (sm _) (.inr ⟨a, b, rfl, hn, by rw [hc]; rfl⟩)
theorem use_ratioW {l : List Nat} {H : Hp} {Q : VK} {E : XK} (hl : l.length ≤ 1000) (q : ∀ H' b, Same H H' → ratioP l b → Q (.bl b) H') : spRatioW [.str (S l)] H Q E := ⟨l, rfl, hl, q⟩
def spWText : Sp := fun vs H Q _ => ∃ i : Int, vs = [.int i] ∧ -(10 ^ 20 : Int) < i ∧ i < 10 ^ 20 ∧ Q (.str (S (nz i))) H
theorem ok_wtext (T : Txt K mg) : FnOk P w K mg base CX0 1 T.f_whole_text T.fd_whole_text ["number"] spWText := by
  refine T.F_whole_text.ok sc_whole_text (fun vs H Q E h => ?_) (fun cdv A outer s H vs Q E hr h => ?_)
  · obtain ⟨i, rfl, _⟩ := h
    rfl
  · obtain ⟨i, rfl, h1, h2, hq⟩ := h
    refine ⟨_, (pss_cons (ps_if (pt_chain op_lt op_lt (pe_un un_neg (pe_glob (v := .int (10 ^ 64)) (by rfl) T.g_BASE ⟨_, rfl⟩)) (pv 0) (pe_glob (v := .int (10 ^ 64)) (by rfl) T.g_BASE ⟨_, rfl⟩)) (pss_one (ps_ret (pe_callTy MT.call_strI (by rfl) T.m_str (by decide +kernel) (pa_cons (pv 0) pa_nil)))) pss_nil)
 (pss_cons ps_never
 (pss_cons ps_never
 (pss_cons ps_never
 (pss_cons ps_never
 (pss_cons ps_never
 (pss_one ps_never))))))), ?_⟩
    refine Z.w_start (σ' := [some (.int i), none, none, none, none]) rfl ?_
    walk_at "w"
    exact w_strI (by omega) hq
theorem use_wtext {i : Int} {H : Hp} {Q : VK} {E : XK} (h1 : -(10 ^ 20 : Int) < i) (h2 : i < 10 ^ 20) (q : Q (.str (S (nz i))) H) : spWText [.int i] H Q E := ⟨i, rfl, h1, h2, q⟩
def spReadW : Sp := fun vs H Q _ => ∃ l : List Nat, vs = [.str (S l)] ∧ l.length ≤ 63 ∧ (strip l).all dg = true ∧ Q (.int (vz l)) H
theorem strip_len (l : List Nat) : (strip l).length ≤ l.length := by
  cases l with
  | nil => exact Nat.le_refl _
  | cons c r =>
    by_cases h : c = 45
    · subst h
      rw [strip_45, List.length_cons]
      omega
    · rw [strip_ot r h]
      exact Nat.le_refl _
theorem ok_readW (T : Txt K mg) : FnOk P w K mg base CX0 1 T.f_read_whole T.fd_read_whole ["word"] spReadW := by
  refine T.F_read_whole.ok sc_read_whole (fun vs H Q E h => ?_) (fun cdv A outer s H vs Q E hr h => ?_)
  · obtain ⟨l, rfl, _⟩ := h
    rfl
  · obtain ⟨l, rfl, hl, ha, hq⟩ := h
    refine ⟨_, (pss_cons (ps_set (i := 1) sc_read_whole.nd rfl (.inl rfl) (pe_m1 PySem.F.slot_str_removeprefix PySem.F.type_str_removeprefix mt_removeprefix (pv 0) (MT.pe_strS (l := [45]) (by decide +kernel))))
 (pss_cons (ps_set (i := 2) sc_read_whole.nd rfl (.inl rfl) (pe_op op_mod (pe_callB MT.call_lenS (by rfl) T.m_len (by decide +kernel) (pa_cons (pv 1) pa_nil)) (pe_glob (v := .int 64) (by rfl) T.g_PIECE ⟨_, rfl⟩)))
 (pss_cons (ps_set (i := 3) sc_read_whole.nd rfl (.inl rfl) (pe_callTy call_int_str (by rfl) T.m_int (by decide +kernel) (pa_cons (pe_op MT.op_addS (MT.pe_strS (l := [48]) (by decide +kernel)) (pe_slice sl_str (pv 1) po_none (po_some (pv 2)))) pa_nil)))
 (pss_cons (ps_for PassesOwn.never rfl (pi_range3 (by rfl) T.m_range (pa_cons (pv 2) (pa_cons (pe_callB MT.call_lenS (by rfl) T.m_len (by decide +kernel) (pa_cons (pv 1) pa_nil)) (pa_cons (pe_glob (v := .int 64) (by rfl) T.g_PIECE ⟨_, rfl⟩) pa_nil)))) (pg_name (i := 4) sc_read_whole.nd rfl (.inl rfl)) (pss_one ps_never))
 (pss_one (ps_ret (pe_ifExp (pt_val (pe_m1 PySem.F.slot_str_startswith PySem.F.type_str_startswith mt_startswith (pv 0) (MT.pe_strS (l := [45]) (by decide +kernel)))) (pe_un un_neg (pv 3)) (pv 3)))))))), ?_⟩
    refine Z.w_start (σ' := [some (.str (S l)), none, none, none, none]) rfl ?_
    have hsl := strip_len l
    walk_at "w"
    refine ⟨by rw [S_len]; exact Nat.le_trans hl (by decide), ?_⟩
    rw [rp_S]
    walk_at "w"
    have e1 : ((strip l).length : Int) % 64 = (strip l).length := by omega
    rw [e1]
    walk_at "w"
    rw [Int.toNat_natCast, List.take_length]
    have hi := _root_.SX.int_S (a := 48 :: strip l) (by show (48 :: strip l).all dg = true; rw [List.all_cons, ha]; rfl) (by simp) (by rw [List.length_cons]; omega)
    refine ⟨_, _, rfl, hi, by rw [S_len, List.length_append]; simp only [List.length_cons, List.length_nil]; omega, ?_⟩
    walk_at "w"
    refine ⟨_, _, _, 0, rfl, rg0 (by omega), ?_⟩
    refine for_it (n := 0) walk_rangeC (fun _ σ H' => σ = [some (.str (S l)), some (.str (S (strip l))), some (.int (strip l).length), some (.int (dv (strip l))), none] ∧ H' = H) ⟨rfl, rfl⟩ (fun _ _ _ _ _ => trivial) (fun i x σ H' H2 hi => (Nat.not_lt_zero _ hi).elim) ?_
    · rintro σ H' ⟨rfl, rfl⟩
      walk_at "w"
      refine w_iteb (fun hc => ?_) (fun hc => ?_)
      · rw [starts1] at hc
        have hc := of_decide_eq_true hc
        unfold vz at hq
        rw [if_pos hc] at hq
        walk_at "w"
        exact hq
      · rw [starts1] at hc
        have hc := of_decide_eq_false hc
        unfold vz at hq
        rw [if_neg hc] at hq
        walk_at "w"
        exact hq
theorem use_readW {l : List Nat} {H : Hp} {Q : VK} {E : XK} (hl : l.length ≤ 63) (ha : (strip l).all dg = true) (q : Q (.int (vz l)) H) : spReadW [.str (S l)] H Q E := ⟨l, rfl, hl, ha, q⟩
end
end L

namespace X2
open PySem PySem.Spec PyProof.Rows L2
theorem w_ost1 {K : PySem.W.Frag} {σ : L2.St} {H : Hp} {D : Ends} {f : Str} {a C : Addr} {y : V} {j k : Nat} (e1 : σ[k]? = some (some y)) (e2 : σ[j]? = some (some (.ref a))) (T : OexC K C) (no : PySem.W.findIn K (.ref C) f = some none) (h : H a = some (exo a C none)) (q : ∀ dx, H dx = none → dx ≠ a → D.nx σ (upd (upd H dx (exd dx [(f, y)])) a (exo a C (some dx)))) :
    tOst K f (tVar j) (tVar k) D σ H := ⟨y, e1, .ref a, e2, a, C, rfl, T, no, .inl ⟨h, q⟩⟩
end X2
namespace X2
open PySem PySem.Spec PyProof.Rows L2
open _root_.SX (S S_len S_cat)
section
variable {σ : L2.St} {H : Hp} {Q : VK} {te t : TE} {ts : List TE} {a m : List Nat} {R : Str → Hp → Prop}
def rFmt : V → Hp → VK → Prop := fun x H1 Q => (∃ y : Str, x = .str y ∧ y.length ≤ sizeLine ∧ Q (.str y) H1) ∨ ∃ i : Int, x = .int i ∧ i.natAbs.log2 < 1920 ∧ Q (.str (toString i)) H1
theorem w_fmt (h : te σ H fun x H1 => rFmt x H1 Q) : tFmt te σ H Q := h
theorem use_fmt (hl : m.length ≤ 100000) (q : Q (.str (S m)) H) : rFmt (.str (S m)) H Q := .inl ⟨_, rfl, by rw [S_len]; exact Nat.le_trans hl (by decide), q⟩
def rJ (ts : List TE) (acc : Str) (σ : L2.St) : V → Hp → (Str → Hp → Prop) → Prop := fun x H1 R => ∃ y : Str, x = .str y ∧ (acc ++ y).length ≤ sizeLine ∧ tJs ts (acc ++ y) σ H1 R
theorem w_j0 (h : tJs ts (S []) σ H R) : tJs ts Str.empty σ H R := h
theorem w_j1 {acc : Str} (h : t σ H fun x H1 => rJ ts acc σ x H1 R) : tJs (t :: ts) acc σ H R := h
theorem use_j (hl : (a ++ m).length ≤ 100000) (h : tJs ts (S (a ++ m)) σ H R) : rJ ts (S a) σ (.str (S m)) H R := ⟨_, rfl, by rw [S_cat, S_len]; exact Nat.le_trans hl (by decide), by rw [S_cat]; exact h⟩
theorem w_fmtI1 {i : Int} {j : Nat} (e : σ[j]? = some (some (.int i))) (hi : i.natAbs < 10 ^ 60) (q : Q (.str (S (MT.nz i))) H) : tFmtR (tVar j) σ H Q := w_fmtI e (log_int hi) (by rw [← MT.S_nz] at q; exact q)
theorem nz_len60 {i : Int} (hi : i.natAbs < 10 ^ 60) : (MT.nz i).length ≤ 61 := by
  have k := TL.numL_len (n := i.natAbs) (k := 60) (by decide) hi
  unfold MT.nz
  split
  · rw [List.length_cons]
    omega
  · omega
theorem w_jn1 {acc : Str} (h : R acc H) : tJs [] acc σ H R := h
end
end X2

namespace X2
open PySem PySem.Spec PyProof.Rows L2
/-- C(e, ..) as what is raised, told with its context, where nothing is handled -/
theorem pmkN {X : Cx} {CW : CXT} {x : Str} {e : Expr} {es : List Expr} {ta : TA} {p pos : Pos} {C fI : Addr} {k : Nat} {fd : FuncData} {ps : List Str} {sp : Sp} (T : OexC X.K C)
    (ic : PySem.W.findIn X.K (.ref C) "__init__" = some (some (.ref fI))) (ti : PySem.W.typeIn X.K (.ref fI) = some (.type "function"))
    (G : FnOk X.prog X.w X.K X.mg X.base CW k fI fd ps sp) (room : Room (k + 1) X.A) (bi : Binds X.K fd ps []) (pass : Passes CW X (fun _ _ _ => False)) (gl : Gl X x) (mm : X.mg x = some (.ref C)) (ha : PA X (e :: es) ta)
    (hdb : (x == ("__debug__" : Str)) = false := by decide) (he : starEach (e :: es) X.env = (false, eval e X.env) :: starEach es X.env := by rfl) (hpl : (backTo pos (starEach es X.env)).any (·.1) = false := by rfl) :
    L2N.PMk X (.Call (.Name x p) (e :: es) [] pos) (tMkO C sp [] ta) := by
  intro pins s σ H R J q0
  obtain ⟨c1, c2, c3, c4, bm, c5, c6, c7, c8, c9, c10, c11, c12, c13, c14, hC, hbm⟩ := T.cls
  refine wpAny_Call_Name_kw (ld_glob J gl mm ?_ hdb)
  refine PySem.W.callWith_K (h₀ := X.base) J.ok.mod.kin T.kC (thn (ha.run pos pins s σ H _ J q0) fun args t1 w1 => ?_) he hpl
  obtain ⟨vals, Hs, J1, rel, small, cont⟩ := w1
  refine ⟨J1.kIn, ?_⟩
  show wpAny _ _ (call (.ref C) args) _ _ _
  obtain ⟨hp, gs, dr, tk, os⟩ := t1
  let N := hp.objs.size + 1
  have le : hp.objs.size ≤ N := Nat.le_succ _
  have free : Hs N = none := J1.hok.fresh le
  have wish := cont N free
  let h2 := (hp.push (PySem.W.kdv_tup args)).push (PySem.HandSPX.excO C hp.objs.size)
  have keep : ∀ b o, hp.get? b = some o → h2.get? b = some o := fun b o z => Heap.get?_push_of_some _ (Heap.get?_push_of_some _ z)
  have made : h2.get? N = some (PySem.HandSPX.excO C hp.objs.size) := by
    show Heap.get? (Heap.push (hp.push (PySem.W.kdv_tup args)) (PySem.HandSPX.excO C hp.objs.size)) (hp.objs.size + 1) = _
    heap_get
  have J2 : Inv X pins σ (upd Hs N (exo N C none)) ⟨h2, gs, dr, tk, os⟩ := J1.laid (t' := tk) (a := N) (o := exo N C none) (h' := h2) keep le (exo_ok made)
  have rel2 : Vals (V.ref N :: (vals ++ [])) (Value.ref N :: (args ++ [])) := .cons rfl (rel.append .nil)
  have cnt : (Value.ref N :: args ++ []).length = ps.length := by
    have z := rel2.length
    rw [G.len _ _ _ _ wish] at z
    exact z.symm
  have fit : args.length ≤ sizeLine := by
    rw [← Paired.length rel, sizeLine_eq]
    omega
  have run := G.run _ X.stack _ _ ⟨Value.ref N :: args, []⟩ (Value.ref N :: (args ++ [])) _ _ (fun _ _ _ => False) (room.make C args []) (J2.env0.make C args []) (show BindsTo _ fd ⟨Value.ref N :: args, []⟩ (ps.zip (Value.ref N :: (args ++ []))) from bi _ (Value.ref N :: args) J2.kIn cnt) rel2 wish
  refine wpAny_call (PySem.HandSPX.call_own F.excBase_ValueError (fun Y => PySem.HandSPX.refsVE_contains Y bm hbm) (J1.kIn _ _ hC) (PySem.W.looks_findIn J1.kIn ic) (fun self => PySem.W.bind_fn J1.kIn self ti) fit (codeAny_mono run fun r t2 out => ?_))
  cases r with
  | error er => exact pass pins σ _ _ er t2 J2 out
  | ok fl =>
    cases fl with
    | ret u =>
      obtain ⟨v, H2, os2, bare2, un2, ok2, rv, ev, d, fs, ea, ed, hd1, q2⟩ := out
      subst ev
      obtain ⟨hh, g2, d2, t2', os'⟩ := t2
      refine ⟨rv, ?_⟩
      obtain ⟨t0, G0, Jn, kG, gone, there, na⟩ := mk_end0 (d2 := d2) (t2 := t2') J1 le keep un2 ok2 os2 bare2 ea ed hd1
      exact ⟨N, _, _, ⟨G0, g2, d2, t2', os'⟩, _, .ref C, some d, rfl, Jn, kG, gone, there, ⟨rfl, rfl, fun vs z => by cases z; rfl⟩, rfl, rfl, na, rfl, bare2, raises_own T.exC T.tyC, q2⟩
    | next => exact out.elim
    | brk => exact out.elim
    | cont => exact out.elim
/-- in a suite over an exception whose context is told -/
theorem hot_of {X : Cx} {a : Addr} {oe : Obj} {cls : Value} {d : Option Addr} {pn : List (Addr × Obj)} (hz : L2N.Zn cls d oe) (hf : ∃ vs, oe.data = .fields vs) : L2H.HotC (X.suite a ((a, oe) :: pn)) := by
  obtain ⟨vs, hv⟩ := hf
  exact ⟨(a, oe), ⟨rfl, vs, hv, hz.2.2 vs hv⟩, List.mem_cons_self⟩
end X2
namespace X2
open PySem PySem.Spec PyProof.Rows L2
section
variable {P : Program} {w : World} {K : PySem.W.Frag} {mg : Str → Option Value} {base : Heap} {x qual : Str} {st : Stmt} {f : Addr} {fd : FuncData} {N ps : List Str} {k : Nat} {sp : Sp}
/-- a def that may raise, what flies told with its context -/
theorem okN (F : Fun K x qual st f fd) (S : FnScope N ps (defScope st)) (len : ∀ vs H Q E, sp vs H Q E → vs.length = ps.length)
    (b : ∀ (cdv : Value) (A : Around) (outer : List Env) (s : Shared) (H : Hp) (vs : List V) (Q : VK) (E : XK), Room k (A.deeper (envOfC qual (defScope st) s.heap.objs.size f cdv)) → sp vs H Q E → ∃ t, PSs (cxOf (L2N.CX P w) P w K mg base N qual (defScope st) f cdv A outer s H E) (defBody st) t ∧ t { nx := fun _ H' => Q .non H', rt := Q } (start N vs) H) :
    FnOk P w K mg base (L2N.CX P w) (k + 1) f fd ps sp := by
  obtain ⟨_, _, _, _, _, _, _, _, _, rfl, place, code⟩ := F.ex
  exact fn_of place code S len fun A outer s H vs Q E room want => b _ A outer s H vs Q E room want
/-- a def that is called while an exception is handled -/
theorem okH (F : Fun K x qual st f fd) (S : FnScope N ps (defScope st)) (len : ∀ vs H Q E, sp vs H Q E → vs.length = ps.length)
    (b : ∀ (cdv : Value) (A : Around) (outer : List Env) (s : Shared) (H : Hp) (vs : List V) (Q : VK) (E : XK) (p : Addr × Obj), L2H.Hot1 A p → L2H.RoomH k (A.deeper (envOfC qual (defScope st) s.heap.objs.size f cdv)) → sp vs H Q E →
      ∃ t, PSs (L2H.cxH CX0 P w K mg base N qual (defScope st) f cdv A outer s H E p) (defBody st) t ∧ t { nx := fun _ H' => Q .non H', rt := Q } (start N vs) H) : L2H.FnH P w K mg base CX0 (k + 1) f fd ps sp := by
  obtain ⟨_, _, _, _, _, _, _, _, _, rfl, place, code⟩ := F.ex
  exact L2H.fn_ofH place code S len fun A outer s H vs Q E p hot room want => b _ A outer s H vs Q E p hot room want
end
theorem passN {X : Cx} : Passes (L2N.CX X.prog X.w) X E0 := fun _ _ _ _ _ _ _ h => by
  obtain ⟨_, _, _, _, _, _, _, _, _, _, _, _, no⟩ := h
  exact no.elim
theorem takesN {X : Cx} : L2N.Takes X (fun _ _ _ _ => False) := fun _ _ x => by
  obtain ⟨_, _, _, _, _, _, _, _, _, _, _, _, _, _, _, _, no⟩ := x
  exact no.elim
theorem passH {X : Cx} {E : L2.St → XK} : ∀ σ, PassesAt CX0 X σ (E σ) := fun _ _ _ _ _ _ _ h => h.elim
theorem w_callSH {sp : Sp} {E : L2.St → XK} {t1 : TA} {σ : L2.St} {H : Hp} {Q : VK} (h : t1 σ H fun vs H1 => sp vs H1 Q (E σ)) : tCallS sp E t1 σ H Q := h
end X2

local macro_rules | `(tactic| walk_at "w1") => `(tactic| first
  | with_reducible refine X2.w_j0 ?_
  | with_reducible refine X2.w_j1 ?_
  | ((with_reducible refine' X2.use_j ?wh ?_); (case wh => walk_at "len"))
  | with_reducible refine X2.w_jn1 ?_
  | with_reducible refine X2.w_fmt ?_
  | ((with_reducible refine' X2.use_fmt ?wh ?_); (case wh => walk_at "len"))
  | fail "w1")

namespace L
open PySem PySem.Spec PyProof.Rows L2 Z M MW MT X2
open _root_.SX (S S_len S_cat S_inj)
section
variable {P : Program} {w : World} {K : PySem.W.Frag} {mg : Str → Option Value} {base : Heap}
def spBadText (C : Addr) : Sp := fun vs H Q E => ∃ i : Int, i.natAbs < 10 ^ 60 ∧ InitEnd C "place" (.int i) vs H Q E
theorem ok_badtext (T : Txt K mg) : FnOk P w K mg base CX0 1 T.f_BadText_init T.fd_BadText_init ["self", "place"] (spBadText T.C_BadText) := by
  refine T.F_BadText_init.ok sc_BadText_init (fun vs H Q E h => ?_) (fun cdv A outer s H vs Q E hr h => ?_)
  · obtain ⟨i, _, a, rfl, _⟩ := h
    rfl
  · obtain ⟨i, hi, a, rfl, ha, h⟩ := h
    refine ⟨_, (pss_cons (ps_expr (X2.pe_binit (by rfl) T.c_PaperError T.xb_PaperError (pa_cons (pv 0) (pa_cons (pe_joined (PJ.cons (MT.pe_strS (l := lit_0) (by decide +kernel)) (PJ.cons (pe_fmtR (pv 1)) PJ.nil))) pa_nil))))
 (pss_one (ps_ost (pv 0) (pv 1)))), ?_⟩
    refine Z.w_start (σ' := [some (.ref a), some (.int i)]) rfl ?_
    have hl := nz_len60 hi
    refine w_seq (w_drop (w_veI ?_))
    walk_at "w"
    refine w_fmtI1 rfl hi ?_
    have h27 : lit_0.length = 27 := rfl
    refine use_j (by rw [List.nil_append, List.length_append]; omega) ?_
    walk_at "w"
    refine use_veI T.xo_BadText.ox ha ?_
    exact w_ost1 rfl rfl T.xo_BadText.ox T.xo_BadText.no ha h
theorem use_badtext {C : Addr} {i : Int} (hi : i.natAbs < 10 ^ 60) (vs : List V) (H : Hp) (Q : VK) (E : XK) (h : InitEnd C "place" (.int i) vs H Q E) : spBadText C vs H Q E := ⟨i, hi, h⟩
def spParse (C : Addr) : Sp := fun vs H Q E => ∃ l : List Nat, vs = [.str (S l)] ∧ l.length ≤ 60 ∧
  (∀ (a b : List Nat) (x y : Int) (t : Addr) H', l = a ++ 47 :: b → 47 ∉ a → wholeW a = true → posW b = true → RatOf (vz a) (dv b) x y → Same H H' → H' t = some (.tup [.int x, .int y]) → Q (.ref t) H') ∧
  (ratioP l false → ∀ d H', Same H H' → H' d = some (.xd [("place", .int 0)]) → E (.ref C) (some d) H')
theorem ok_parse (T : Txt K mg) : FnOk P w K mg base (L2N.CX P w) 4 T.f_parse_ratio T.fd_parse_ratio ["text"] (spParse T.C_BadText) := by
  have G_is_ratio_word := ok_ratioW (P := P) (w := w) (base := base) T
  have G_read_whole := ok_readW (P := P) (w := w) (base := base) T
  have G_ratio := ok_ratio (P := P) (w := w) (base := base) T
  have G_BadText_init := ok_badtext (P := P) (w := w) (base := base) T
  refine okN T.F_parse_ratio sc_parse_ratio (fun vs H Q E h => ?_) (fun cdv A outer s H vs Q E hr h => ?_)
  · obtain ⟨l, rfl, _⟩ := h
    rfl
  · obtain ⟨l, rfl, hl, h1, h2⟩ := h
    refine ⟨_, (pss_cons (ps_if (pt_not (pt_val (pe_call G_is_ratio_word (hr.mono (by decide)) (by rfl) T.g_is_ratio_word T.F_is_ratio_word.kp T.b_is_ratio_word .nil pass0 (pa_cons (pv 0) pa_nil)))) (pss_one (L2N.ps_raise rfl (L2N.takes_of rfl rfl rfl rfl) (X2.pmkN T.xo_BadText.ox T.xo_BadText.ii T.xo_BadText.ti G_BadText_init (hr.mono (by decide)) T.b_BadText_init pass0 (by rfl) T.c_BadText (pa_cons pe_int pa_nil)))) pss_nil)
 (pss_cons (ps_asg (pe_partition (pv 0) (MT.pe_strS (l := [47]) (by decide +kernel))) (pg_tup (by rfl) (pgs_cons (pg_name (i := 1) sc_parse_ratio.nd rfl (.inl rfl)) (pgs_cons (pg_name (i := 2) sc_parse_ratio.nd rfl (.inl rfl)) (pgs_cons (pg_name (i := 3) sc_parse_ratio.nd rfl (.inl rfl)) pgs_nil)))))
 (pss_one (ps_ret (pe_call G_ratio (hr.mono (by decide)) (by rfl) T.g_ratio T.F_ratio.kp (b_ratio2 T) .nil pass0 (pa_cons (pe_call G_read_whole (hr.mono (by decide)) (by rfl) T.g_read_whole T.F_read_whole.kp T.b_read_whole .nil pass0 (pa_cons (pv 1) pa_nil)) (pa_cons (pe_call G_read_whole (hr.mono (by decide)) (by rfl) T.g_read_whole T.F_read_whole.kp T.b_read_whole .nil pass0 (pa_cons (pv 3) pa_nil)) pa_nil))))))), ?_⟩
    refine Z.w_start (σ' := [some (.str (S l)), none, none, none]) rfl ?_
    walk_at "w"
    refine use_ratioW (by omega) fun H1 b s1 hb => ?_
    walk_at "w"
    refine w_iteb (fun hc => ?_) (fun hc => ?_)
    · have hb' : b = false := by simpa using hc
      subst hb'
      walk_at "w"
      refine w_mkO ?_
      walk_at "w"
      exact use_mk (use_badtext (by decide)) fun d hd => h2 hb _ _ (same_of s1 hd) upd_same
    · have hb' : b = true := by simpa using hc
      subst hb'
      rcases hb with ⟨_, e⟩ | ⟨a, c, rfl, hn, e⟩
      · cases e
      have hw := Bool.and_eq_true_iff.mp e.symm
      rw [List.length_append, List.length_cons] at hl
      walk_at "w"
      refine ⟨by rw [S_len, List.length_append, List.length_cons]; exact Nat.le_trans hl (by decide), fun p hp => ?_⟩
      rw [part_some hn]
      have sm := same_of (o := .tup [.str (S a), .str (S [47]), .str (S c)]) s1 hp
      have hsa : (strip a).all dg = true := by
        rcases Bool.or_eq_true_iff.mp hw.1 with e | e
        · have e := of_decide_eq_true e
          subst e
          decide
        · exact (pos_all e).1
      have hsc : (strip c).all dg = true ∧ vz c = (dv c : Int) := by
        cases c with
        | nil => exact ⟨rfl, rfl⟩
        | cons x r =>
          have hx : x ≠ 45 := fun e => by
            subst e
            have := hw.2
            rw [posW_45] at this
            cases this
          rw [strip_ot r hx]
          refine ⟨(pos_all hw.2).1, ?_⟩
          unfold vz
          rw [if_neg (by simpa using hx), strip_ot r hx]
      have hla := dv_lt _ hsa
      have hlc := dv_lt _ (pos_all hw.2).1
      have hst := strip_len a
      have pw : ∀ n : Nat, n ≤ 60 → 10 ^ n ≤ 2 ^ 200 := fun n hn => Nat.le_trans (Nat.pow_le_pow_right (by decide) hn) (by decide)
      have hva : (vz a).natAbs < 2 ^ 200 := by
        have k : (vz a).natAbs = dv (strip a) := by
          unfold vz
          split <;> omega
        rw [k]
        exact Nat.lt_of_lt_of_le hla (pw _ (by omega))
      have hvc : ((dv c : Nat) : Int).natAbs < 2 ^ 200 := by
        rw [Int.natAbs_natCast]
        exact Nat.lt_of_lt_of_le hlc (pw _ (by omega))
      have hpos := dv_pos hw.2
      walk_at "w"
      refine use_readW (by omega) hsa ?_
      walk_at "w"
      refine use_readW (by omega) hsc.1 ?_
      rw [hsc.2]
      walk_at "w"
      exact use_ratio (by omega) hva hvc fun x y t hr ht => h1 a c x y t _ rfl hn hw.1 hw.2 hr (same_of sm ht) upd_same
theorem use_parse {C : Addr} {l : List Nat} {H : Hp} {Q : VK} {E : XK} (hl : l.length ≤ 60) (h1 : ∀ (a b : List Nat) (x y : Int) (t : Addr) H', l = a ++ 47 :: b → 47 ∉ a → wholeW a = true → posW b = true → RatOf (vz a) (dv b) x y → Same H H' → H' t = some (.tup [.int x, .int y]) → Q (.ref t) H')
  (h2 : ratioP l false → ∀ d H', Same H H' → H' d = some (.xd [("place", .int 0)]) → E (.ref C) (some d) H') : spParse C [.str (S l)] H Q E := ⟨l, rfl, hl, h1, h2⟩
def spRText : Sp := fun vs H Q _ => ∃ (t : Addr) (x y : Int), vs = [.ref t] ∧ H t = some (.tup [.int x, .int y]) ∧ -(10 ^ 20 : Int) < x ∧ x < 10 ^ 20 ∧ -(10 ^ 20 : Int) < y ∧ y < 10 ^ 20 ∧ Q (.str (S (nz x ++ 47 :: nz y))) H
theorem nz_len {x : Int} (h1 : -(10 ^ 20 : Int) < x) (h2 : x < 10 ^ 20) : (nz x).length ≤ 21 := by
  have k := TL.numL_len (n := x.natAbs) (k := 20) (by decide) (by omega)
  unfold nz
  split
  · rw [List.length_cons]
    omega
  · omega
theorem ok_rtext (T : Txt K mg) : FnOk P w K mg base CX0 2 T.f_ratio_text T.fd_ratio_text ["a"] spRText := by
  have G_whole_text := ok_wtext (P := P) (w := w) (base := base) T
  refine T.F_ratio_text.ok sc_ratio_text (fun vs H Q E h => ?_) (fun cdv A outer s H vs Q E hr h => ?_)
  · obtain ⟨t, x, y, rfl, _⟩ := h
    rfl
  · obtain ⟨t, x, y, rfl, ht, h1, h2, h3, h4, hq⟩ := h
    refine ⟨_, (pss_one (ps_ret (pe_joined (PJ.cons (pe_fmt (pe_call G_whole_text (hr.mono (by decide)) (by rfl) T.g_whole_text T.F_whole_text.kp T.b_whole_text .nil pass0 (pa_cons (pe_ix ix_tup (pv 0) pe_int (fun _ _ => rfl)) pa_nil))) (PJ.cons (MT.pe_strS (l := [47]) (by decide +kernel)) (PJ.cons (pe_fmt (pe_call G_whole_text (hr.mono (by decide)) (by rfl) T.g_whole_text T.F_whole_text.kp T.b_whole_text .nil pass0 (pa_cons (pe_ix ix_tup (pv 0) pe_int (fun _ _ => rfl)) pa_nil))) PJ.nil)))))), ?_⟩
    refine Z.w_start (σ' := [some (.ref t)]) rfl ?_
    have l1 := nz_len h1 h2
    have l2 := nz_len h3 h4
    walk_at "w"
    refine use_wtext h1 h2 ?_
    walk_at "w"
    refine use_wtext h3 h4 ?_
    walk_at "w"
    rw [List.nil_append, List.append_assoc]
    exact hq
theorem use_rtext {t : Addr} {x y : Int} {H : Hp} {Q : VK} {E : XK} (ht : H t = some (.tup [.int x, .int y])) (h1 : -(10 ^ 20 : Int) < x) (h2 : x < 10 ^ 20) (h3 : -(10 ^ 20 : Int) < y) (h4 : y < 10 ^ 20) (q : Q (.str (S (nz x ++ 47 :: nz y))) H) : spRText [.ref t] H Q E := ⟨t, x, y, rfl, ht, h1, h2, h3, h4, q⟩
end
end L

namespace L
open PySem PySem.Spec PyProof.Rows L2 Z M MW MT X2
open _root_.SX (S S_len S_cat S_inj)
section
variable {P : Program} {w : World} {K : PySem.W.Frag} {mg : Str → Option Value} {base : Heap}
def spDigits : Sp := fun vs H Q _ => ∃ (q : Addr) (o : HO) (m : Int), vs = [.ref q, .int m] ∧ H q = some o ∧ IsPool o ∧ 3 ≤ m ∧ m ≤ 24 ∧ ∀ (l : List Nat) o', (l.length : Int) ≤ m → IsPool o' → Q (.str (S l)) (upd H q o')
theorem ok_digits (T : Txt K mg) : FnOk P w K mg base CX0 2 T.f_digits T.fd_digits ["_law_pool_here", "_law_most"] spDigits := by
  have G_take := ok_take (P := P) (w := w) (base := base) T
  refine T.F_digits.ok sc_digits (fun vs H Q E h => ?_) (fun cdv A outer s H vs Q E hr h => ?_)
  · obtain ⟨q, o, m, rfl, _⟩ := h
    rfl
  · obtain ⟨q, o, m, rfl, ho, hp, hm, hm2, hq⟩ := h
    refine ⟨_, (pss_cons (ps_set (i := 2) sc_digits.nd rfl (.inl rfl) (pe_ix ix_str (MT.pe_strS (l := [49, 50, 51, 52, 53, 54, 55, 56, 57]) (by decide +kernel)) (pe_call G_take (hr.mono (by decide)) (by rfl) T.g_take T.F_take.kp T.b_take .nil pass0 (pa_cons (pv 0) (pa_cons pe_int pa_nil))) (fun _ _ => rfl)))
 (pss_cons (ps_set (i := 3) sc_digits.nd rfl (.inl rfl) (pe_call G_take (hr.mono (by decide)) (by rfl) T.g_take T.F_take.kp T.b_take .nil pass0 (pa_cons (pv 0) (pa_cons pe_int pa_nil))))
 (pss_cons (ps_if (pt_cmpR op_eq (pv 3) pe_int (nomark _)) (pss_one (ps_set (i := 3) sc_digits.nd rfl (.inl rfl) (pe_call G_take (hr.mono (by decide)) (by rfl) T.g_take T.F_take.kp T.b_take .nil pass0 (pa_cons (pv 0) (pa_cons (pv 1) pa_nil))))) pss_nil)
 (pss_cons (ps_for PassesOwn.never rfl (pi_range1 (by rfl) T.m_range (pa_cons (pv 3) pa_nil)) (pg_name (i := 4) sc_digits.nd rfl (.inl rfl)) (pss_one (ps_set (i := 2) sc_digits.nd rfl (.inl rfl) (pe_op MT.op_addS (pv 2) (pe_ix ix_str (MT.pe_strS (l := [48, 49, 50, 51, 52, 53, 54, 55, 56, 57]) (by decide +kernel)) (pe_call G_take (hr.mono (by decide)) (by rfl) T.g_take T.F_take.kp T.b_take .nil pass0 (pa_cons (pv 0) (pa_cons pe_int pa_nil))) (fun _ _ => rfl))))))
 (pss_one (ps_ret (pv 2))))))), ?_⟩
    refine Z.w_start (σ' := [some (.ref q), some (.int m), none, none, none]) rfl ?_
    walk_at "w"
    rename_i r o1 h0 h1 hp1
    obtain ⟨c, hc, hcm⟩ := pickN (l := [49, 50, 51, 52, 53, 54, 55, 56, 57]) (k := r) h0 (by simp only [List.length_cons, List.length_nil]; omega)
    walk_at "w"
    rename_i r2 o2 g0 g1 hp2
    walk_at "wi"
    all_goals walk_at "w"
    all_goals refine ⟨by omega, by omega, ?_⟩
    all_goals refine for_range (lo := 0) (n := _) (fun i σ H' => ∃ (l : List Nat) (o3 : HO) (k : Int) (x4 : Option V), σ = [some (.ref q), some (.int m), some (.str (S l)), some (.int k), x4] ∧ H' = upd H q o3 ∧ IsPool o3 ∧ l.length = i + 1 ∧ (k.toNat : Int) + 1 ≤ m) ?_ ?_ ?_
    all_goals first
      | exact ⟨_, _, _, _, rfl, rfl, by assumption, rfl, by omega⟩
      | (rintro i σ H' hi ⟨l, o3, k, x4, rfl, rfl, hp3, hl, hk⟩
         have hl2 : l.length ≤ 100 := by omega
         walk_at "w"
         rename_i r3 o4 f0 f1 hp4
         obtain ⟨d, hd, hdm⟩ := pickN (l := [48, 49, 50, 51, 52, 53, 54, 55, 56, 57]) (k := r3) f0 (by simp only [List.length_cons, List.length_nil]; omega)
         walk_at "w"
         exact ⟨_, _, _, _, rfl, rfl, by assumption, by rw [List.length_append, hl]; rfl, by omega⟩)
      | (rintro σ H' ⟨l, o3, k, x4, rfl, rfl, hp3, hl, hk⟩
         walk_at "w"
         exact hq _ _ (by omega) hp3)
theorem use_digits {q : Addr} {o : HO} {m : Int} {H : Hp} {Q : VK} {E : XK} (ho : H q = some o) (hp : IsPool o) (h1 : 3 ≤ m) (h2 : m ≤ 24) (h : ∀ (l : List Nat) o', (l.length : Int) ≤ m → IsPool o' → Q (.str (S l)) (upd H q o')) : spDigits [.ref q, .int m] H Q E := ⟨q, o, m, rfl, ho, hp, h1, h2, h⟩
theorem use_digitsU {q : Addr} {o : HO} {m : Int} {H : Hp} {Q : VK} {E : XK} (hp : IsPool o) (h1 : 3 ≤ m) (h2 : m ≤ 24) (h : ∀ (l : List Nat) o', (l.length : Int) ≤ m → IsPool o' → Q (.str (S l)) (upd H q o')) : spDigits [.ref q, .int m] (upd H q o) Q E := ⟨q, o, m, rfl, upd_same, hp, h1, h2, fun l o' a b => by rw [upd_upd]; exact h l o' a b⟩
def spWord : Sp := fun vs H Q _ => ∃ (q : Addr) (o : HO) (m : Int), vs = [.ref q, .int m] ∧ H q = some o ∧ IsPool o ∧ 3 ≤ m ∧ m ≤ 24 ∧ ∀ (l : List Nat) o', (l.length : Int) ≤ m + 1 → IsPool o' → Q (.str (S l)) (upd H q o')
theorem ok_word (T : Txt K mg) : FnOk P w K mg base CX0 3 T.f_word T.fd_word ["_law_pool_here", "_law_most"] spWord := by
  have G_take := ok_take (P := P) (w := w) (base := base) T
  have G_digits := ok_digits (P := P) (w := w) (base := base) T
  refine T.F_word.ok sc_word (fun vs H Q E h => ?_) (fun cdv A outer s H vs Q E hr h => ?_)
  · obtain ⟨q, o, m, rfl, _⟩ := h
    rfl
  · obtain ⟨q, o, m, rfl, ho, hp, hm, hm2, hq⟩ := h
    refine ⟨_, (pss_cons (ps_set (i := 2) sc_word.nd rfl (.inl rfl) (pe_call G_take (hr.mono (by decide)) (by rfl) T.g_take T.F_take.kp T.b_take .nil pass0 (pa_cons (pv 0) (pa_cons pe_int pa_nil))))
 (pss_cons (ps_if (pt_cmpR op_eq (pv 2) pe_int (nomark _)) (pss_one (ps_ret (MT.pe_strS (l := [48]) (by decide +kernel)))) pss_nil)
 (pss_cons (ps_if (pt_cmpR op_eq (pv 2) pe_int (nomark _)) (pss_one (ps_ret (pe_op MT.op_addS (MT.pe_strS (l := [45]) (by decide +kernel)) (pe_call G_digits (hr.mono (by decide)) (by rfl) T.g_digits T.F_digits.kp T.b_digits .nil pass0 (pa_cons (pv 0) (pa_cons (pv 1) pa_nil)))))) pss_nil)
 (pss_one (ps_ret (pe_call G_digits (hr.mono (by decide)) (by rfl) T.g_digits T.F_digits.kp T.b_digits .nil pass0 (pa_cons (pv 0) (pa_cons (pv 1) pa_nil)))))))), ?_⟩
    refine Z.w_start (σ' := [some (.ref q), some (.int m), none]) rfl ?_
    walk_at "w"
    rename_i r o1 h0 h1 hp1
    walk_at "wi"
    · walk_at "w"
      exact hq _ _ (by simp only [List.length_cons, List.length_nil]; omega) hp1
    · walk_at "w"
      walk_at "wi"
      · walk_at "w"
        refine use_digitsU hp1 hm hm2 fun l o2 hl hp2 => ?_
        have hl2 : l.length ≤ 100 := by omega
        walk_at "w"
        exact hq _ _ (by rw [List.length_append, List.length_singleton]; omega) hp2
      · walk_at "w"
        exact use_digitsU hp1 hm hm2 fun l o2 hl hp2 => hq _ _ (by omega) hp2
theorem use_wordU {q : Addr} {o : HO} {m : Int} {H : Hp} {Q : VK} {E : XK} (hp : IsPool o) (h1 : 3 ≤ m) (h2 : m ≤ 24) (h : ∀ (l : List Nat) o', (l.length : Int) ≤ m + 1 → IsPool o' → Q (.str (S l)) (upd H q o')) : spWord [.ref q, .int m] (upd H q o) Q E := ⟨q, o, m, rfl, upd_same, hp, h1, h2, fun l o' a b => by rw [upd_upd]; exact h l o' a b⟩
def spSigns : Sp := fun vs H Q _ => vs = [] ∧ ∀ l : List Nat, 0 < l.length → l.length ≤ 200 → Q (.str (S l)) H
theorem ok_signs (T : Txt K mg) : FnOk P w K mg base CX0 1 T.f_signs T.fd_signs [] spSigns := by
  refine T.F_signs.ok sc_signs (fun vs H Q E h => ?_) (fun cdv A outer s H vs Q E hr h => ?_)
  · obtain ⟨rfl, _⟩ := h
    rfl
  · obtain ⟨rfl, hq⟩ := h
    refine ⟨_, (pss_cons (ps_set (i := 0) sc_signs.nd rfl (.inl rfl) (MT.pe_strS (l := lit_1) (by decide +kernel)))
 (pss_one (ps_ret (pe_op MT.op_addS (pv 0) (MT.pe_strS (l := lit_2) (by decide +kernel)))))), ?_⟩
    refine Z.w_start (σ' := [none]) rfl ?_
    walk_at "w"
    exact hq _ (by decide) (by decide)
theorem use_signs {H : Hp} {Q : VK} {E : XK} (h : ∀ l : List Nat, 0 < l.length → l.length ≤ 200 → Q (.str (S l)) H) : spSigns [] H Q E := ⟨rfl, h⟩
def spSign : Sp := fun vs H Q _ => ∃ (q : Addr) (o : HO), vs = [.ref q] ∧ H q = some o ∧ IsPool o ∧ ∀ (c : Nat) o', IsPool o' → Q (.str (S [c])) (upd H q o')
theorem ok_sign (T : Txt K mg) : FnOk P w K mg base CX0 2 T.f_sign T.fd_sign ["_law_pool_here"] spSign := by
  have G_take := ok_take (P := P) (w := w) (base := base) T
  have G_signs := ok_signs (P := P) (w := w) (base := base) T
  refine T.F_sign.ok sc_sign (fun vs H Q E h => ?_) (fun cdv A outer s H vs Q E hr h => ?_)
  · obtain ⟨q, o, rfl, _⟩ := h
    rfl
  · obtain ⟨q, o, rfl, ho, hp, hq⟩ := h
    refine ⟨_, (pss_cons (ps_set (i := 1) sc_sign.nd rfl (.inl rfl) (MT.pe_strS (l := [48, 45, 47, 43, 32, 95, 10, 46, 49, 55]) (by decide +kernel)))
 (pss_cons (ps_if (pt_cmpR op_eq (pe_call G_take (hr.mono (by decide)) (by rfl) T.g_take T.F_take.kp T.b_take .nil pass0 (pa_cons (pv 0) (pa_cons pe_int pa_nil))) pe_int (nomark _)) (pss_one (ps_set (i := 1) sc_sign.nd rfl (.inl rfl) (pe_call0 G_signs (hr.mono (by decide)) (by rfl) T.g_signs T.F_signs.kp T.b_signs .nil pass0))) pss_nil)
 (pss_one (ps_ret (pe_ix ix_str (pv 1) (pe_call G_take (hr.mono (by decide)) (by rfl) T.g_take T.F_take.kp T.b_take .nil pass0 (pa_cons (pv 0) (pa_cons (pe_callB MT.call_lenS (by rfl) T.m_len (by decide +kernel) (pa_cons (pv 1) pa_nil)) pa_nil))) (fun _ _ => rfl)))))), ?_⟩
    refine Z.w_start (σ' := [some (.ref q), none]) rfl ?_
    walk_at "w"
    rename_i r o1 h0 h1 hp1
    walk_at "wi"
    · walk_at "w"
      refine use_signs fun l l0 l1 => ?_
      walk_at "w"
      rename_i r2 o2 g0 g1 hp2
      obtain ⟨c, hc, _⟩ := pickN (l := l) g0 (by omega)
      walk_at "w"
      exact hq _ _ hp2
    · walk_at "w"
      refine use_takeU hp1 (by decide) (by decide) fun r2 o2 g0 g1 hp2 => ?_
      obtain ⟨c, hc, _⟩ := pickN (l := [48, 45, 47, 43, 32, 95, 10, 46, 49, 55]) (k := r2) g0 (by simp only [List.length_cons, List.length_nil] at *; omega)
      walk_at "w"
      exact hq _ _ hp2
theorem use_signU {q : Addr} {o : HO} {H : Hp} {Q : VK} {E : XK} (hp : IsPool o) (h : ∀ (c : Nat) o', IsPool o' → Q (.str (S [c])) (upd H q o')) : spSign [.ref q] (upd H q o) Q E := ⟨q, o, rfl, upd_same, hp, fun c o' a => by rw [upd_upd]; exact h c o' a⟩
def spSpoilt : Sp := fun vs H Q _ => ∃ (q : Addr) (o : HO) (l : List Nat), vs = [.ref q, .str (S l)] ∧ H q = some o ∧ IsPool o ∧ l.length ≤ 100 ∧ ∀ (m : List Nat) o', m.length ≤ l.length + 1 → IsPool o' → Q (.str (S m)) (upd H q o')
theorem ok_spoilt (T : Txt K mg) : FnOk P w K mg base CX0 3 T.f_spoilt T.fd_spoilt ["_law_pool_here", "_law_text_here"] spSpoilt := by
  have G_take := ok_take (P := P) (w := w) (base := base) T
  have G_sign := ok_sign (P := P) (w := w) (base := base) T
  refine T.F_spoilt.ok sc_spoilt (fun vs H Q E h => ?_) (fun cdv A outer s H vs Q E hr h => ?_)
  · obtain ⟨q, o, l, rfl, _⟩ := h
    rfl
  · obtain ⟨q, o, l, rfl, ho, hp, hl, hq⟩ := h
    refine ⟨_, (pss_cons (ps_set (i := 2) sc_spoilt.nd rfl (.inl rfl) (pe_call G_take (hr.mono (by decide)) (by rfl) T.g_take T.F_take.kp T.b_take .nil pass0 (pa_cons (pv 0) (pa_cons (pe_op op_add (pe_callB MT.call_lenS (by rfl) T.m_len (by decide +kernel) (pa_cons (pv 1) pa_nil)) pe_int) pa_nil))))
 (pss_cons (ps_set (i := 3) sc_spoilt.nd rfl (.inl rfl) (pe_call G_take (hr.mono (by decide)) (by rfl) T.g_take T.F_take.kp T.b_take .nil pass0 (pa_cons (pv 0) (pa_cons pe_int pa_nil))))
 (pss_cons (ps_if (pt_cmpR op_eq (pv 3) pe_int (nomark _)) (pss_one (ps_ret (pe_op MT.op_addS (pe_op MT.op_addS (pe_slice sl_str (pv 1) po_none (po_some (pv 2))) (pe_call G_sign (hr.mono (by decide)) (by rfl) T.g_sign T.F_sign.kp T.b_sign .nil pass0 (pa_cons (pv 0) pa_nil))) (pe_slice sl_str (pv 1) (po_some (pv 2)) po_none)))) pss_nil)
 (pss_cons (ps_if (pt_cmpR op_eq (pv 3) pe_int (nomark _)) (pss_one (ps_ret (pe_op MT.op_addS (pe_op MT.op_addS (pe_slice sl_str (pv 1) po_none (po_some (pv 2))) (pe_call G_sign (hr.mono (by decide)) (by rfl) T.g_sign T.F_sign.kp T.b_sign .nil pass0 (pa_cons (pv 0) pa_nil))) (pe_slice sl_str (pv 1) (po_some (pe_op op_add (pv 2) pe_int)) po_none)))) pss_nil)
 (pss_cons (ps_if (pt_cmpR op_eq (pv 3) pe_int (nomark _)) (pss_one (ps_ret (pe_op MT.op_addS (pe_slice sl_str (pv 1) po_none (po_some (pv 2))) (pe_slice sl_str (pv 1) (po_some (pe_op op_add (pv 2) pe_int)) po_none)))) pss_nil)
 (pss_one (ps_ret (pe_op MT.op_addS (pe_slice sl_str (pv 1) po_none (po_some (pe_op op_add (pv 2) pe_int))) (pe_slice sl_str (pv 1) (po_some (pv 2)) po_none))))))))), ?_⟩
    refine Z.w_start (σ' := [some (.ref q), some (.str (S l)), none, none]) rfl ?_
    walk_at "w"
    rename_i r o1 h0 h1 hp1 r2 o2 g0 g1 hp2
    walk_at "wi"
    · walk_at "w"
      refine use_signU hp2 fun c o3 hp3 => ?_
      walk_at "w"
      exact hq _ _ (by simp only [List.length_append, List.length_take, List.length_drop, List.length_singleton]; omega) hp3
    · walk_at "w"
      walk_at "wi"
      · walk_at "w"
        refine use_signU hp2 fun c o3 hp3 => ?_
        walk_at "w"
        exact hq _ _ (by simp only [List.length_append, List.length_take, List.length_drop, List.length_singleton]; omega) hp3
      · walk_at "w"
        walk_at "wi"
        · walk_at "w"
          exact hq _ _ (by simp only [List.length_append, List.length_take, List.length_drop]; omega) hp2
        · walk_at "w"
          exact hq _ _ (by simp only [List.length_append, List.length_take, List.length_drop]; omega) hp2
theorem use_spoiltU {q : Addr} {o : HO} {l : List Nat} {H : Hp} {Q : VK} {E : XK} (hp : IsPool o) (hl : l.length ≤ 100) (h : ∀ (m : List Nat) o', m.length ≤ l.length + 1 → IsPool o' → Q (.str (S m)) (upd H q o')) : spSpoilt [.ref q, .str (S l)] (upd H q o) Q E := ⟨q, o, l, rfl, upd_same, hp, hl, fun m o' a b => by rw [upd_upd]; exact h m o' a b⟩
end
end L

namespace L
open PySem PySem.Spec PyProof.Rows L2 Z M MW MT X2
open _root_.SX (S S_len S_cat S_inj)
section
variable {P : Program} {w : World} {K : PySem.W.Frag} {mg : Str → Option Value} {base : Heap}
theorem w_cat {a b : Addr} {xs zs : List V} {H : Hp} {Q : VK} (h1 : H a = some (.lst xs)) (h2 : H b = some (.lst zs)) (hz : xs.length + zs.length ≤ 1000) (q : ∀ p, H p = none → Q (.ref p) (upd H p (.lst (xs ++ zs)))) : rCat (.ref a) (.ref b) H Q := ⟨a, b, xs, zs, rfl, rfl, h1, h2, sz4 hz, q⟩
def shortS (n : Nat) : V → Bool
  | .str z => decide (z.length ≤ n)
  | _ => false
theorem shortS_get {n : Nat} {xs : List V} {k : Int} (h0 : 0 ≤ k) (h : k < xs.length) (ha : xs.all (shortS n) = true) : ∃ l : List Nat, atI xs k = some (.str (S l)) ∧ l.length ≤ n := by
  obtain ⟨j, rfl⟩ := Int.eq_ofNat_of_zero_le h0
  have hj : j < xs.length := by omega
  have hm := List.all_eq_true.mp ha xs[j] (List.getElem_mem hj)
  have e := atI_nat (j := j) (List.getElem?_eq_getElem hj)
  cases hv : xs[j] with
  | str z =>
    rw [hv] at hm e
    refine ⟨z.cps.toList, by rw [_root_.SX.S_tl]; exact e, ?_⟩
    have := of_decide_eq_true hm
    rw [← TL.len_tl]
    exact this
  | _ => rw [hv] at hm; cases hm
def spOdd : Sp := fun vs H Q _ => ∃ (q : Addr) (o : HO), vs = [.ref q] ∧ H q = some o ∧ IsPool o ∧ ∀ (l : List Nat) H', l.length ≤ 5 → DX q H H' → Q (.str (S l)) H'
theorem ok_odd (T : Txt K mg) : FnOk P w K mg base CX0 2 T.f_odd T.fd_odd ["_law_pool_here"] spOdd := by
  have G_take := ok_take (P := P) (w := w) (base := base) T
  refine T.F_odd.ok sc_odd (fun vs H Q E h => ?_) (fun cdv A outer s H vs Q E hr h => ?_)
  · obtain ⟨q, o, rfl, _⟩ := h
    rfl
  · obtain ⟨q, o, rfl, ho, hp, hq⟩ := h
    refine ⟨_, (pss_cons (ps_set (i := 1) sc_odd.nd rfl (.inl rfl) (pe_lst (pa_cons (MT.pe_strS (l := []) (by decide +kernel)) (pa_cons (MT.pe_strS (l := [45]) (by decide +kernel)) (pa_cons (MT.pe_strS (l := [47]) (by decide +kernel)) (pa_cons (MT.pe_strS (l := [48]) (by decide +kernel)) (pa_cons (MT.pe_strS (l := [45, 48]) (by decide +kernel)) (pa_cons (MT.pe_strS (l := [48, 48]) (by decide +kernel)) (pa_cons (MT.pe_strS (l := [48, 48, 55]) (by decide +kernel)) (pa_cons (MT.pe_strS (l := [45, 48, 55]) (by decide +kernel)) (pa_cons (MT.pe_strS (l := [49, 48]) (by decide +kernel)) (pa_cons (MT.pe_strS (l := [45, 45, 49]) (by decide +kernel)) (pa_cons (MT.pe_strS (l := [49, 45]) (by decide +kernel)) (pa_cons (MT.pe_strS (l := [45, 47]) (by decide +kernel)) (pa_cons (MT.pe_strS (l := [48, 47, 48]) (by decide +kernel)) (pa_cons (MT.pe_strS (l := [48, 47, 49]) (by decide +kernel)) (pa_cons (MT.pe_strS (l := [45, 48, 47, 49]) (by decide +kernel)) (pa_cons (MT.pe_strS (l := [48, 48, 47, 49]) (by decide +kernel)) (pa_cons (MT.pe_strS (l := [48, 49, 47, 50]) (by decide +kernel)) pa_nil)))))))))))))))))))
 (pss_cons (ps_set (i := 1) sc_odd.nd rfl (.inl rfl) (pe_op op_cat (pv 1) (pe_lst (pa_cons (MT.pe_strS (l := [45, 48, 49, 47, 50]) (by decide +kernel)) (pa_cons (MT.pe_strS (l := [49, 47, 48]) (by decide +kernel)) (pa_cons (MT.pe_strS (l := [49, 47, 48, 48]) (by decide +kernel)) (pa_cons (MT.pe_strS (l := [49, 47, 48, 50]) (by decide +kernel)) (pa_cons (MT.pe_strS (l := [49, 47, 47, 50]) (by decide +kernel)) (pa_cons (MT.pe_strS (l := [47, 50]) (by decide +kernel)) (pa_cons (MT.pe_strS (l := [49, 47]) (by decide +kernel)) (pa_cons (MT.pe_strS (l := [45, 47, 50]) (by decide +kernel)) (pa_cons (MT.pe_strS (l := [49, 47, 45, 50]) (by decide +kernel)) (pa_cons (MT.pe_strS (l := [43, 49, 47, 50]) (by decide +kernel)) (pa_cons (MT.pe_strS (l := [49, 47, 43, 50]) (by decide +kernel)) (pa_cons (MT.pe_strS (l := [32, 49, 47, 50]) (by decide +kernel)) (pa_cons (MT.pe_strS (l := [49, 47, 50, 32]) (by decide +kernel)) pa_nil))))))))))))))))
 (pss_cons (ps_set (i := 1) sc_odd.nd rfl (.inl rfl) (pe_op op_cat (pv 1) (pe_lst (pa_cons (MT.pe_strS (l := [49, 47, 50, 10]) (by decide +kernel)) (pa_cons (MT.pe_strS (l := [49, 32, 47, 50]) (by decide +kernel)) (pa_cons (MT.pe_strS (l := [49, 47, 32, 50]) (by decide +kernel)) (pa_cons (MT.pe_strS (l := [49, 95, 48, 47, 51]) (by decide +kernel)) (pa_cons (MT.pe_strS (l := [51, 47, 49, 95, 48]) (by decide +kernel)) (pa_cons (MT.pe_strS (l := [49, 46, 48, 47, 50]) (by decide +kernel)) (pa_cons (MT.pe_strS (l := [49, 47, 50, 47, 51]) (by decide +kernel)) (pa_cons (MT.pe_strS (l := [50, 47, 52]) (by decide +kernel)) (pa_cons (MT.pe_strS (l := [45, 54, 47, 52]) (by decide +kernel)) (pa_cons (MT.pe_strS (l := [49, 48, 47, 49, 48]) (by decide +kernel)) (pa_cons (MT.pe_strS (l := [48, 47, 49, 48]) (by decide +kernel)) (pa_cons (MT.pe_strS (l := [45, 32, 49, 47, 50]) (by decide +kernel)) pa_nil)))))))))))))))
 (pss_one (ps_ret (pe_ix ix_list (pv 1) (pe_call G_take (hr.mono (by decide)) (by rfl) T.g_take T.F_take.kp T.b_take .nil pass0 (pa_cons (pv 0) (pa_cons (pe_callB call_len_seq (by rfl) T.m_len (by decide +kernel) (pa_cons (pv 1) pa_nil)) pa_nil))) (fun _ _ => rfl))))))), ?_⟩
    refine Z.w_start (σ' := [some (.ref q), none]) rfl ?_
    walk_at "w"
    rename_i p1 hp1 p2 hp2
    obtain ⟨n21, hp2'⟩ := fresh_of hp2
    refine w_cat (by rw [upd_ne (Ne.symm n21)]; exact upd_same) upd_same (by decide) fun p3 hp3 => ?_
    walk_at "w"
    rename_i p4 hp4
    refine w_cat (by rw [upd_ne (Ne.symm (fresh_of hp4).1)]; exact upd_same) upd_same (by decide) fun p5 hp5 => ?_
    have e1 := fun o => same_of (o := o) (Same.refl H) hp1
    have e2 := fun o => same_of (o := o) (e1 _) hp2
    have e3 := fun o => same_of (o := o) (e2 _) hp3
    have e4 := fun o => same_of (o := o) (e3 _) hp4
    have d5 := fun o => same_of (o := o) (e4 _) hp5
    walk_at "w"
    refine use_take (d5 _ _ _ ho) hp (by decide) (by decide) fun r o1 h0 h1 hq1 => ?_
    obtain ⟨l, hl, hl5⟩ := shortS_get (n := 5) (xs := _) (k := r) h0 h1 (by decide +kernel)
    have nq5 : p5 ≠ q := Ne.symm (ne_of_none (e4 _ _ _ ho) hp5)
    refine w_ixH (by rw [upd_ne nq5]; exact upd_same) hl ?_
    walk_at "w"
    exact hq l _ hl5 (DX.take (SX.of (SX.refl H) (d5 _)) hq1)
theorem use_oddU {q : Addr} {o : HO} {H : Hp} {Q : VK} {E : XK} (hp : IsPool o) (h : ∀ (l : List Nat) H', l.length ≤ 5 → DX q (upd H q o) H' → Q (.str (S l)) H') : spOdd [.ref q] (upd H q o) Q E := ⟨q, o, rfl, upd_same, hp, h⟩
theorem join1 : ∀ cs : List Nat, TL.joinL [] (cs.map fun c => [c]) = cs
  | [] => rfl
  | [c] => rfl
  | c :: d :: r => by
    have ih := join1 (d :: r)
    show [c] ++ ([] ++ TL.joinL [] ((d :: r).map fun c => [c])) = _
    rw [ih]
    rfl
theorem join_S1 (cs : List Nat) : Txt.join (S []) ((cs.map fun c => [c]).map S) = S cs := by rw [_root_.SX.join_S, join1]
theorem sum_one : ∀ cs : List Nat, (((cs.map fun c => [c]).map S).map (·.length)).sum = cs.length
  | [] => rfl
  | c :: r => by
    have ih := sum_one r
    simp only [List.map_cons, List.sum_cons] at *
    rw [ih, S_len]
    simp only [List.length_cons, List.length_nil]
    omega
def spFree : Sp := fun vs H Q _ => ∃ (q : Addr) (o : HO), vs = [.ref q] ∧ H q = some o ∧ IsPool o ∧ ∀ (l : List Nat) H', l.length ≤ 20 → DX q H H' → Q (.str (S l)) H'
theorem ok_free (T : Txt K mg) : FnOk P w K mg base CX0 2 T.f_free T.fd_free ["_law_pool_here"] spFree := by
  have G_take := ok_take (P := P) (w := w) (base := base) T
  have G_signs := ok_signs (P := P) (w := w) (base := base) T
  refine T.F_free.ok sc_free (fun vs H Q E h => ?_) (fun cdv A outer s H vs Q E hr h => ?_)
  · obtain ⟨q, o, rfl, _⟩ := h
    rfl
  · obtain ⟨q, o, rfl, ho, hp, hq⟩ := h
    refine ⟨_, (pss_cons (ps_set (i := 1) sc_free.nd rfl (.inr rfl) (MT.pe_strS (l := [48, 49, 50, 55, 45, 47, 43, 97, 95, 32, 10]) (by decide +kernel)))
 (pss_cons (ps_set (i := 2) sc_free.nd rfl (.inl rfl) (pe_call G_take (hr.mono (by decide)) (by rfl) T.g_take T.F_take.kp T.b_take .nil pass0 (pa_cons (pv 0) (pa_cons pe_int pa_nil))))
 (pss_cons (ps_if (pt_cmpR op_eq (pe_call G_take (hr.mono (by decide)) (by rfl) T.g_take T.F_take.kp T.b_take .nil pass0 (pa_cons (pv 0) (pa_cons pe_int pa_nil))) pe_int (nomark _)) (pss_cons (ps_set (i := 1) sc_free.nd rfl (.inr rfl) (pe_call0 G_signs (hr.mono (by decide)) (by rfl) T.g_signs T.F_signs.kp T.b_signs .nil pass0))
 (pss_one (ps_set (i := 2) sc_free.nd rfl (.inl rfl) (pe_op op_add (pv 2) (pe_call G_take (hr.mono (by decide)) (by rfl) T.g_take T.F_take.kp T.b_take .nil pass0 (pa_cons (pv 0) (pa_cons pe_int pa_nil))))))) pss_nil)
 (pss_one (ps_ret (pe_join (MT.pe_strS (l := []) (by decide +kernel)) (pe_lc (own := [("_law_k", 3)]) (g := gName 3) (tt := tYes) (by rfl) sc_free.nd (pi_range1 (by rfl) T.m_range (pa_cons (pv 2) pa_nil)) (blkOk_by (own := [("_law_k", 3)]) (N := N_free) (sc := defScope s_free) (by decide +kernel)) (fun _ _ _ _ _ => pg_name (i := 3) sc_free.nd rfl (Or.inl rfl)) (fun _ _ _ _ _ => pts_nil) (fun _ _ _ _ _ => (pe_ix ix_str (pv 1) (pe_call G_take (hr.mono (by decide)) (by rfl) T.g_take T.F_take.kp T.b_take .nil pass0 (pa_cons (pv 0) (pa_cons (pe_callB MT.call_lenS (by rfl) T.m_len (by decide +kernel) (pa_cons (pv 1) pa_nil)) pa_nil))) (fun _ _ => rfl)))))))))), ?_⟩
    refine Z.w_start (σ' := [some (.ref q), none, none, none]) rfl ?_
    walk_at "w"
    rename_i r o1 h0 h1 hp1 r2 o2 g0 g1 hp2
    walk_at "wi"
    · walk_at "w"
      refine use_signs fun sg sg0 sg1 => ?_
      walk_at "w"
      rename_i r4 o4 k0 k1 hp4
      refine ⟨by omega, by omega, fun D hD => ?_⟩
      obtain ⟨hDq, hDn⟩ := fresh_of hD
      refine lc_range (lo := 0) (n := _) (fun i H' => SX q H H' ∧ (∃ o3, H' q = some o3 ∧ IsPool o3) ∧ ∃ cs : List Nat, H' D = some (.lst (((cs.map fun c => [c]).map S).map V.str)) ∧ cs.length = i ∧ i ≤ 19) ?_ ?_ ?_
      · exact ⟨((SX.refl H).at).own hDn, ⟨_, by rw [upd_ne (Ne.symm hDq)]; exact upd_same, by assumption⟩, [], upd_same, rfl, by omega⟩
      · rintro i H' hi ⟨sm, ⟨o3, hq3, hp3⟩, cs, hcs, hl, hi2⟩
        refine Z.w_gname (σ' := [some (.ref q), some (.str (S sg)), some (.int (r + r4)), some (.int (0 + i))]) rfl ?_
        refine ⟨rfl, ?_⟩
        walk_at "w"
        rename_i r9 o4 f0 f1 hp4
        obtain ⟨c, hc9, _⟩ := pickN (l := sg) (k := r9) f0 (by omega)
        walk_at "w"
        refine ⟨_, by rw [upd_ne hDq]; exact hcs, by simp only [List.length_map, hl]; exact Nat.lt_of_le_of_lt hi2 (by decide), (sm.at).own hDn, ⟨_, by rw [upd_ne (Ne.symm hDq)]; exact upd_same, hp4⟩, cs ++ [c], ?_, by rw [List.length_append, hl]; rfl, by omega⟩
        rw [upd_same, List.map_append, List.map_append, List.map_append]
        rfl
      · rintro H1 ⟨sm, ⟨o3, hq3, hp3⟩, cs, hcs, hl, hi2⟩
        walk_at "w"
        refine ⟨_, D, (cs.map fun c => [c]).map S, rfl, rfl, .inl (.inl (.inl hcs)), ?_, ?_⟩
        · rw [sum_one, List.length_map, List.length_map, S_len]
          simp only [List.length_nil]
          omega
        · rw [join_S1]
          exact hq cs H1 (by omega) ⟨sm, o3, hq3, hp3⟩
    · walk_at "w"
      refine ⟨by omega, by omega, fun D hD => ?_⟩
      obtain ⟨hDq, hDn⟩ := fresh_of hD
      refine lc_range (lo := 0) (n := _) (fun i H' => SX q H H' ∧ (∃ o3, H' q = some o3 ∧ IsPool o3) ∧ ∃ cs : List Nat, H' D = some (.lst (((cs.map fun c => [c]).map S).map V.str)) ∧ cs.length = i ∧ i ≤ 19) ?_ ?_ ?_
      · exact ⟨((SX.refl H).at).own hDn, ⟨_, by rw [upd_ne (Ne.symm hDq)]; exact upd_same, by assumption⟩, [], upd_same, rfl, by omega⟩
      · rintro i H' hi ⟨sm, ⟨o3, hq3, hp3⟩, cs, hcs, hl, hi2⟩
        refine Z.w_gname (σ' := [some (.ref q), some (.str (S [48, 49, 50, 55, 45, 47, 43, 97, 95, 32, 10])), some (.int r), some (.int (0 + i))]) rfl ?_
        refine ⟨rfl, ?_⟩
        walk_at "w"
        refine use_take hq3 hp3 (by decide) (by decide) fun r9 o4 f0 f1 hp4 => ?_
        obtain ⟨c, hc9, _⟩ := pickN (l := [48, 49, 50, 55, 45, 47, 43, 97, 95, 32, 10]) (k := r9) f0 (by simp only [List.length_cons, List.length_nil] at *; omega)
        walk_at "w"
        refine ⟨_, by rw [upd_ne hDq]; exact hcs, by simp only [List.length_map, hl]; exact Nat.lt_of_le_of_lt hi2 (by decide), (sm.at).own hDn, ⟨_, by rw [upd_ne (Ne.symm hDq)]; exact upd_same, hp4⟩, cs ++ [c], ?_, by rw [List.length_append, hl]; rfl, by omega⟩
        rw [upd_same, List.map_append, List.map_append, List.map_append]
        rfl
      · rintro H1 ⟨sm, ⟨o3, hq3, hp3⟩, cs, hcs, hl, hi2⟩
        walk_at "w"
        refine ⟨_, D, (cs.map fun c => [c]).map S, rfl, rfl, .inl (.inl (.inl hcs)), ?_, ?_⟩
        · rw [sum_one, List.length_map, List.length_map, S_len]
          simp only [List.length_nil]
          omega
        · rw [join_S1]
          exact hq cs H1 (by omega) ⟨sm, o3, hq3, hp3⟩
theorem use_freeU {q : Addr} {o : HO} {H : Hp} {Q : VK} {E : XK} (hp : IsPool o) (h : ∀ (l : List Nat) H', l.length ≤ 20 → DX q (upd H q o) H' → Q (.str (S l)) H') : spFree [.ref q] (upd H q o) Q E := ⟨q, o, rfl, upd_same, hp, h⟩
theorem DX.up {q : Addr} {H H' : Hp} {o : HO} (s : DX q (upd H q o) H') : DX q H H' := ⟨fun b x n e => s.1 b x n (by rw [upd_ne n]; exact e), s.2⟩
def spText : Sp := fun vs H Q _ => ∃ (q : Addr) (o : HO), vs = [.ref q] ∧ H q = some o ∧ IsPool o ∧ ∀ (l : List Nat) H', l.length ≤ 60 → DX q H H' → Q (.str (S l)) H'
theorem ok_text (T : Txt K mg) : FnOk P w K mg base CX0 4 T.f_text T.fd_text ["_law_pool_here"] spText := by
  have G_take := ok_take (P := P) (w := w) (base := base) T
  have G_word := ok_word (P := P) (w := w) (base := base) T
  have G_digits := ok_digits (P := P) (w := w) (base := base) T
  have G_spoilt := ok_spoilt (P := P) (w := w) (base := base) T
  have G_odd := ok_odd (P := P) (w := w) (base := base) T
  have G_free := ok_free (P := P) (w := w) (base := base) T
  refine T.F_text.ok sc_text (fun vs H Q E h => ?_) (fun cdv A outer s H vs Q E hr h => ?_)
  · obtain ⟨q, o, rfl, _⟩ := h
    rfl
  · obtain ⟨q, o, rfl, ho, hp, hq⟩ := h
    refine ⟨_, (pss_cons (ps_set (i := 1) sc_text.nd rfl (.inl rfl) (pe_call G_take (hr.mono (by decide)) (by rfl) T.g_take T.F_take.kp T.b_take .nil pass0 (pa_cons (pv 0) (pa_cons pe_int pa_nil))))
 (pss_cons (ps_if (pt_cmpR op_eq (pv 1) pe_int (nomark _)) (pss_one (ps_ret (pe_call G_word (hr.mono (by decide)) (by rfl) T.g_word T.F_word.kp T.b_word .nil pass0 (pa_cons (pv 0) (pa_cons pe_int pa_nil))))) pss_nil)
 (pss_cons (ps_if (PW.pt (pw_or (pt_cmpR op_eq (pv 1) pe_int (nomark _)) (pw_or1 (pt_cmpR op_eq (pv 1) pe_int (nomark _))))) (pss_one (ps_ret (pe_op MT.op_addS (pe_op MT.op_addS (pe_call G_word (hr.mono (by decide)) (by rfl) T.g_word T.F_word.kp T.b_word .nil pass0 (pa_cons (pv 0) (pa_cons pe_int pa_nil))) (MT.pe_strS (l := [47]) (by decide +kernel))) (pe_call G_digits (hr.mono (by decide)) (by rfl) T.g_digits T.F_digits.kp T.b_digits .nil pass0 (pa_cons (pv 0) (pa_cons pe_int pa_nil)))))) pss_nil)
 (pss_cons (ps_if (pt_cmpR op_eq (pv 1) pe_int (nomark _)) (pss_one (ps_ret (pe_call G_spoilt (hr.mono (by decide)) (by rfl) T.g_spoilt T.F_spoilt.kp T.b_spoilt .nil pass0 (pa_cons (pv 0) (pa_cons (pe_call G_word (hr.mono (by decide)) (by rfl) T.g_word T.F_word.kp T.b_word .nil pass0 (pa_cons (pv 0) (pa_cons pe_int pa_nil))) pa_nil))))) pss_nil)
 (pss_cons (ps_if (PW.pt (pw_or (pt_cmpR op_eq (pv 1) pe_int (nomark _)) (pw_or1 (pt_cmpR op_eq (pv 1) pe_int (nomark _))))) (pss_cons (ps_set (i := 2) sc_text.nd rfl (.inl rfl) (pe_call G_word (hr.mono (by decide)) (by rfl) T.g_word T.F_word.kp T.b_word .nil pass0 (pa_cons (pv 0) (pa_cons pe_int pa_nil))))
 (pss_one (ps_ret (pe_call G_spoilt (hr.mono (by decide)) (by rfl) T.g_spoilt T.F_spoilt.kp T.b_spoilt .nil pass0 (pa_cons (pv 0) (pa_cons (pe_op MT.op_addS (pe_op MT.op_addS (pv 2) (MT.pe_strS (l := [47]) (by decide +kernel))) (pe_call G_digits (hr.mono (by decide)) (by rfl) T.g_digits T.F_digits.kp T.b_digits .nil pass0 (pa_cons (pv 0) (pa_cons pe_int pa_nil)))) pa_nil)))))) pss_nil)
 (pss_cons (ps_if (pt_cmpR op_eq (pv 1) pe_int (nomark _)) (pss_one (ps_ret (pe_call G_odd (hr.mono (by decide)) (by rfl) T.g_odd T.F_odd.kp T.b_odd .nil pass0 (pa_cons (pv 0) pa_nil)))) pss_nil)
 (pss_one (ps_ret (pe_call G_free (hr.mono (by decide)) (by rfl) T.g_free T.F_free.kp T.b_free .nil pass0 (pa_cons (pv 0) pa_nil)))))))))), ?_⟩
    refine Z.w_start (σ' := [some (.ref q), none, none]) rfl ?_
    walk_at "w"
    rename_i r o1 h0 h1 hp1
    walk_at "wi"
    · walk_at "w"
      exact use_wordU hp1 (by decide) (by decide) fun l o2 hl hp2 => hq _ _ (by omega) (DX.one hp2)
    · walk_at "w"
      have k1 : ∀ (l : List Nat) o2, (l.length : Int) ≤ 24 + 1 → IsPool o2 → True := fun _ _ _ _ => trivial
      walk_at "wi"
      · walk_at "w"
        refine use_wordU hp1 (by decide) (by decide) fun l o2 hl hp2 => ?_
        walk_at "w"
        refine use_digitsU hp2 (by decide) (by decide) fun m o3 hm hp3 => ?_
        walk_at "w"
        exact hq _ _ (by simp only [List.length_append, List.length_singleton]; omega) (DX.one hp3)
      · walk_at "w"
        walk_at "wi"
        · walk_at "w"
          refine use_wordU hp1 (by decide) (by decide) fun l o2 hl hp2 => ?_
          walk_at "w"
          refine use_digitsU hp2 (by decide) (by decide) fun m o3 hm hp3 => ?_
          walk_at "w"
          exact hq _ _ (by simp only [List.length_append, List.length_singleton]; omega) (DX.one hp3)
        · walk_at "w"
          walk_at "wi"
          · walk_at "w"
            refine use_wordU hp1 (by decide) (by decide) fun l o2 hl hp2 => ?_
            walk_at "w"
            exact use_spoiltU hp2 (by omega) fun m o3 hm hp3 => hq _ _ (by omega) (DX.one hp3)
          · walk_at "w"
            walk_at "wi"
            · walk_at "w"
              refine use_wordU hp1 (by decide) (by decide) fun l o2 hl hp2 => ?_
              walk_at "w"
              refine use_digitsU hp2 (by decide) (by decide) fun m o3 hm hp3 => ?_
              walk_at "w"
              exact use_spoiltU hp3 (by simp only [List.length_append, List.length_singleton]; omega) fun m2 o4 hm4 hp4 => hq _ _ (by simp only [List.length_append, List.length_singleton] at hm4; omega) (DX.one hp4)
            · walk_at "w"
              walk_at "wi"
              · walk_at "w"
                refine use_wordU hp1 (by decide) (by decide) fun l o2 hl hp2 => ?_
                walk_at "w"
                refine use_digitsU hp2 (by decide) (by decide) fun m o3 hm hp3 => ?_
                walk_at "w"
                exact use_spoiltU hp3 (by simp only [List.length_append, List.length_singleton]; omega) fun m2 o4 hm4 hp4 => hq _ _ (by simp only [List.length_append, List.length_singleton] at hm4; omega) (DX.one hp4)
              · walk_at "w"
                walk_at "wi"
                · walk_at "w"
                  exact use_oddU hp1 fun l H2 hl s2 => hq _ _ (by omega) s2.up
                · walk_at "w"
                  exact use_freeU hp1 fun l H2 hl s2 => hq _ _ (by omega) s2.up
theorem use_text {q : Addr} {o : HO} {H : Hp} {Q : VK} {E : XK} (ho : H q = some o) (hp : IsPool o) (h : ∀ (l : List Nat) H', l.length ≤ 60 → DX q H H' → Q (.str (S l)) H') : spText [.ref q] H Q E := ⟨q, o, rfl, ho, hp, h⟩
end
end L

namespace MT
open PySem PySem.Spec PyProof.Rows L2
open _root_.SX (S)
section
variable {H : Hp} {Q : VK} {l m : List Nat}
theorem w_rEqS (q : Q (.bl (decide (l = m))) H) : rEq (.str (S l)) (.str (S m)) H Q := ⟨rfl, by
  have e : decide (V.str (S l) = V.str (S m)) = decide (l = m) := by
    by_cases h : l = m
    · rw [decide_eq_true h, decide_eq_true (vS_eq.mpr h)]
    · rw [decide_eq_false h, decide_eq_false (fun k => h (vS_eq.mp k))]
  rw [e]
  exact q⟩
theorem w_rNeS (q : Q (.bl (!decide (l = m))) H) : rNe (.str (S l)) (.str (S m)) H Q := ⟨rfl, by
  have e : decide (V.str (S l) = V.str (S m)) = decide (l = m) := by
    by_cases h : l = m
    · rw [decide_eq_true h, decide_eq_true (vS_eq.mpr h)]
    · rw [decide_eq_false h, decide_eq_false (fun k => h (vS_eq.mp k))]
  rw [e]
  exact q⟩
theorem leafN {a b : Nat} (h : a = b) (hq : Q (.int (a : Nat)) H) : Q (.int (b : Nat)) H := h ▸ hq
end
end MT

local macro_rules | `(tactic| walk_at "w1") => `(tactic| first
  | with_reducible refine MT.w_rEqS ?_
  | with_reducible refine MT.w_rNeS ?_
  | fail "w1")

namespace L
open PySem PySem.Spec PyProof.Rows L2 Z M MW MT X2
open _root_.SX (S S_len S_cat S_inj)
section
variable {P : Program} {w : World} {K : PySem.W.Frag} {mg : Str → Option Value} {base : Heap}
def spStep : Sp := fun vs H Q _ => ∃ s c : Nat, vs = [.int s, .str (S [c])] ∧ s ≤ 6 ∧ Q (.int (stp s c : Nat)) H
theorem in_d1 (c : Nat) : (c ∈ [49, 50, 51, 52, 53, 54, 55, 56, 57]) ↔ d1 c = true := by
  simp only [d1, List.mem_cons, List.not_mem_nil, or_false, Bool.and_eq_true, decide_eq_true_eq]
  omega
theorem in_dg (c : Nat) : (c ∈ [48, 49, 50, 51, 52, 53, 54, 55, 56, 57]) ↔ dg c = true := by
  simp only [dg, List.mem_cons, List.not_mem_nil, or_false, Bool.and_eq_true, decide_eq_true_eq]
  omega
theorem ok_step (T : Txt K mg) : FnOk P w K mg base CX0 1 T.f_step T.fd_step ["_law_state", "_law_sign_here"] spStep := by
  refine T.F_step.ok sc_step (fun vs H Q E h => ?_) (fun cdv A outer s H vs Q E hr h => ?_)
  · obtain ⟨i, c, rfl, _⟩ := h
    rfl
  · obtain ⟨i, c, rfl, hi, hq⟩ := h
    refine ⟨_, (pss_cons (ps_if (PW.pt (pw_and (pt_cmpR op_eq (pv 0) pe_int (nomark _)) (pw_and1 (pt_cmpR op_eq (pv 1) (MT.pe_strS (l := [45]) (by decide +kernel)) (nomark _))))) (pss_one (ps_ret pe_int)) pss_nil)
 (pss_cons (ps_if (PW.pt (pw_and (pt_cmpR op_eq (pv 0) pe_int (nomark _)) (pw_and1 (pt_cmpR op_eq (pv 1) (MT.pe_strS (l := [48]) (by decide +kernel)) (nomark _))))) (pss_one (ps_ret pe_int)) pss_nil)
 (pss_cons (ps_if (PW.pt (pw_and (PW.pt (pw_or (pt_cmpR op_eq (pv 0) pe_int (nomark _)) (pw_or1 (pt_cmpR op_eq (pv 0) pe_int (nomark _))))) (pw_and1 (pt_cmpR MT.op_inS (pv 1) (MT.pe_strS (l := [49, 50, 51, 52, 53, 54, 55, 56, 57]) (by decide +kernel)) rfl)))) (pss_one (ps_ret pe_int)) pss_nil)
 (pss_cons (ps_if (PW.pt (pw_and (pt_cmpR op_eq (pv 0) pe_int (nomark _)) (pw_and1 (pt_cmpR MT.op_inS (pv 1) (MT.pe_strS (l := [48, 49, 50, 51, 52, 53, 54, 55, 56, 57]) (by decide +kernel)) rfl)))) (pss_one (ps_ret pe_int)) pss_nil)
 (pss_cons (ps_if (PW.pt (pw_and (PW.pt (pw_or (pt_cmpR op_eq (pv 0) pe_int (nomark _)) (pw_or1 (pt_cmpR op_eq (pv 0) pe_int (nomark _))))) (pw_and1 (pt_cmpR op_eq (pv 1) (MT.pe_strS (l := [47]) (by decide +kernel)) (nomark _))))) (pss_one (ps_ret pe_int)) pss_nil)
 (pss_cons (ps_if (PW.pt (pw_and (pt_cmpR op_eq (pv 0) pe_int (nomark _)) (pw_and1 (pt_cmpR MT.op_inS (pv 1) (MT.pe_strS (l := [49, 50, 51, 52, 53, 54, 55, 56, 57]) (by decide +kernel)) rfl)))) (pss_one (ps_ret pe_int)) pss_nil)
 (pss_cons (ps_if (PW.pt (pw_and (pt_cmpR op_eq (pv 0) pe_int (nomark _)) (pw_and1 (pt_cmpR MT.op_inS (pv 1) (MT.pe_strS (l := [48, 49, 50, 51, 52, 53, 54, 55, 56, 57]) (by decide +kernel)) rfl)))) (pss_one (ps_ret pe_int)) pss_nil)
 (pss_one (ps_ret pe_int))))))))), ?_⟩
    refine Z.w_start (σ' := [some (.int i), some (.str (S [c]))]) rfl ?_
    have e1 := in_d1 c
    have e2 := in_dg c
    rcases (show i = 0 ∨ i = 1 ∨ i = 2 ∨ i = 3 ∨ i = 4 ∨ i = 5 ∨ i = 6 by omega) with rfl | rfl | rfl | rfl | rfl | rfl | rfl
    all_goals walk_at "w"
    all_goals repeat' (walk_at "wi" <;> walk_at "w")
    all_goals first
      | exact leafN (b := 1) (by simp_all [stp]) hq
      | exact leafN (b := 2) (by simp_all [stp]) hq
      | exact leafN (b := 3) (by simp_all [stp]) hq
      | exact leafN (b := 4) (by simp_all [stp]) hq
      | exact leafN (b := 5) (by simp_all [stp]) hq
      | exact leafN (b := 6) (by simp_all [stp]) hq
theorem use_step {i c : Nat} {H : Hp} {Q : VK} {E : XK} (hi : i ≤ 6) (q : Q (.int (stp i c : Nat)) H) : spStep [.int i, .str (S [c])] H Q E := ⟨i, c, rfl, hi, q⟩
theorem stp_le (s c : Nat) : stp s c ≤ 6 := by
  unfold stp
  repeat' split
  all_goals omega
end
end L

namespace L
open PySem PySem.Spec PyProof.Rows L2 Z M MW MT X2
open _root_.SX (S S_len S_cat S_inj)
section
variable {P : Program} {w : World} {K : PySem.W.Frag} {mg : Str → Option Value} {base : Heap}
def spRead : Sp := fun vs H Q _ => ∃ l : List Nat, vs = [.str (S l)] ∧ l.length ≤ 1000 ∧ ∀ (s : Nat × Int × Int) (t : Addr), s = l.foldl rd (0, 0, 0) → H t = none → Q (.ref t) (upd H t (.tup [.int s.1, .int (if l.head? = some 45 then -s.2.1 else s.2.1), .int s.2.2]))
theorem ok_read (T : Txt K mg) : FnOk P w K mg base CX0 2 T.f_read T.fd_read ["_law_text_here"] spRead := by
  have G_step := ok_step (P := P) (w := w) (base := base) T
  refine T.F_read.ok sc_read (fun vs H Q E h => ?_) (fun cdv A outer s H vs Q E hr h => ?_)
  · obtain ⟨l, rfl, _⟩ := h
    rfl
  · obtain ⟨l, rfl, hl, hq⟩ := h
    refine ⟨_, (pss_cons (ps_set (i := 1) sc_read.nd rfl (.inl rfl) pe_int)
 (pss_cons (ps_set (i := 2) sc_read.nd rfl (.inl rfl) pe_int)
 (pss_cons (ps_set (i := 3) sc_read.nd rfl (.inl rfl) pe_int)
 (pss_cons (ps_for PassesOwn.never rfl (pi_str (pv 0)) (pg_name (i := 4) sc_read.nd rfl (.inl rfl)) (pss_cons (ps_set (i := 1) sc_read.nd rfl (.inl rfl) (pe_call G_step (hr.mono (by decide)) (by rfl) T.g_step T.F_step.kp T.b_step .nil pass0 (pa_cons (pv 1) (pa_cons (pv 4) pa_nil))))
 (pss_cons (ps_if (pt_cmpR op_eq (pv 1) pe_int (nomark _)) (pss_one (ps_set (i := 2) sc_read.nd rfl (.inl rfl) (pe_op op_add (pe_op op_mul pe_int (pv 2)) (pe_m1 PySem.F.slot_str_find PySem.F.type_str_find mt_find (MT.pe_strS (l := [48, 49, 50, 51, 52, 53, 54, 55, 56, 57]) (by decide +kernel)) (pv 4))))) pss_nil)
 (pss_one (ps_if (pt_cmpR op_eq (pv 1) pe_int (nomark _)) (pss_one (ps_set (i := 3) sc_read.nd rfl (.inl rfl) (pe_op op_add (pe_op op_mul pe_int (pv 3)) (pe_m1 PySem.F.slot_str_find PySem.F.type_str_find mt_find (MT.pe_strS (l := [48, 49, 50, 51, 52, 53, 54, 55, 56, 57]) (by decide +kernel)) (pv 4))))) pss_nil)))))
 (pss_cons (ps_if (pt_cmpR op_eq (pe_slice sl_str (pv 0) po_none (po_some pe_int)) (MT.pe_strS (l := [45]) (by decide +kernel)) (nomark _)) (pss_one (ps_set (i := 2) sc_read.nd rfl (.inl rfl) (pe_un un_neg (pv 2)))) pss_nil)
 (pss_one (ps_ret (pe_tup (pa_cons (pv 1) (pa_cons (pv 2) (pa_cons (pv 3) pa_nil))))))))))), ?_⟩
    refine Z.w_start (σ' := [some (.str (S l)), none, none, none, none]) rfl ?_
    walk_at "w"
    refine ⟨_, rfl, _, rfl, ?_⟩
    have hsz : (S l).cps.size = l.length := by simp [S]
    refine for_it (n := (S l).cps.size) walk_str (fun i σ H' => ∃ (s : Nat × Int × Int) (x4 : Option V), s = (l.take i).foldl rd (0, 0, 0) ∧ s.1 ≤ 6 ∧ σ = [some (.str (S l)), some (.int s.1), some (.int s.2.1), some (.int s.2.2), x4] ∧ H' = H) ?_ (fun _ _ _ _ _ => trivial) ?_ ?_
    · exact ⟨(0, 0, 0), _, rfl, by decide, rfl, rfl⟩
    · rintro i x σ H' H2 hi ⟨s, x4, es, hs, rfl, rfl⟩ ⟨rfl, c, hc, rfl⟩
      have hci : l[i]? = some c := by simpa [S] using hc
      have ht : l.take (i + 1) = l.take i ++ [c] := by rw [List.take_add_one, hci]; rfl
      have en : (l.take (i + 1)).foldl rd (0, 0, 0) = rd s c := by rw [ht, List.foldl_append, ← es]; rfl
      obtain ⟨s1, s2, s3⟩ := s
      have e1 : (rd (s1, s2, s3) c).1 = stp s1 c := rfl
      dsimp only at hs
      walk_at "w"
      refine use_step hs ?_
      walk_at "w"
      by_cases h3 : stp s1 c = 3
      · have hd : dg c = true := by
          unfold stp at h3
          repeat' split at h3
          all_goals first
            | omega
            | (rename_i h; exact d1_dg h.2)
            | (rename_i h; exact h.2)
        have e : rd (s1, s2, s3) c = (stp s1 c, 10 * s2 + fnd c, s3) := by simp [rd, h3]
        rw [e] at en
        walk_at "w"
        exact ⟨(stp s1 c, 10 * s2 + fnd c, s3), _, en.symm, stp_le _ _, by rw [find_dg hd], rfl⟩
      · walk_at "w"
        by_cases h5 : stp s1 c = 5
        · have hd : dg c = true := by
            unfold stp at h5
            repeat' split at h5
            all_goals first
              | omega
              | (rename_i h; exact d1_dg h.2)
              | (rename_i h; exact h.2)
          have e : rd (s1, s2, s3) c = (stp s1 c, s2, 10 * s3 + fnd c) := by simp [rd, h5]
          rw [e] at en
          walk_at "w"
          exact ⟨(stp s1 c, s2, 10 * s3 + fnd c), _, en.symm, stp_le _ _, by rw [find_dg hd], rfl⟩
        · have e : rd (s1, s2, s3) c = (stp s1 c, s2, s3) := by simp [rd, h3, h5]
          rw [e] at en
          walk_at "w"
          exact ⟨(stp s1 c, s2, s3), _, en.symm, stp_le _ _, rfl, rfl⟩
    · rintro σ H' ⟨s, x4, es, hs, rfl, rfl⟩
      rw [hsz, List.take_length] at es
      have hh : (List.take (Int.toNat 1) l = [45]) ↔ l.head? = some 45 := by
        cases l <;> simp
      walk_at "w"
      walk_at "wi"
      · rename_i hc
        have hq2 := hq s
        rw [if_pos (hh.mp hc)] at hq2
        walk_at "w"
        exact hq2 _ es (by assumption)
      · rename_i hc
        have hq2 := hq s
        rw [if_neg (fun z => hc (hh.mpr z))] at hq2
        walk_at "w"
        exact hq2 _ es (by assumption)
theorem use_read {l : List Nat} {H : Hp} {Q : VK} {E : XK} (hl : l.length ≤ 1000) (q : ∀ (s : Nat × Int × Int) (t : Addr), s = l.foldl rd (0, 0, 0) → H t = none → Q (.ref t) (upd H t (.tup [.int s.1, .int (if l.head? = some 45 then -s.2.1 else s.2.1), .int s.2.2]))) : spRead [.str (S l)] H Q E := ⟨l, rfl, hl, q⟩
end
end L

namespace X2
open PySem PySem.Spec PyProof.Rows L2
theorem roomM {k : Nat} {A : Around} (r : Room k A) (h : Option Value) : L2H.RoomH k (A.mark h) := ⟨r.dp, r.un⟩
theorem passH0 {X : Cx} : ∀ σ : L2.St, PassesAt CX0 X σ E0 := fun _ _ _ _ _ _ _ h => h.elim
end X2

local macro_rules | `(tactic| walk_at "w1") => `(tactic| first
  | ((with_reducible refine' X2.w_xfv ?ws ?wd ?wl ?_); (case ws => exact rfl); (case wd => walk_at "hp"); (case wl => (first | exact rfl | decide | simp)))
  | ((with_reducible refine' MT.w_strI ?wh ?_); (case wh => omega))
  | ((with_reducible refine Z.w_iteNF ?wh ?_); (case wh => exact rfl))
  | ((with_reducible refine Z.w_iteNT ?wh ?_); (case wh => (intro h; cases h; done)))
  | ((with_reducible refine' Z.w_rNe ?wh ?_); (case wh => exact rfl))
  | with_reducible refine X2.w_callSH ?_
  | fail "w1")

namespace L
open PySem PySem.Spec PyProof.Rows L2 Z M MW MT X2
open _root_.SX (S S_len S_cat S_inj)
section
variable {P : Program} {w : World} {K : PySem.W.Frag} {mg : Str → Option Value} {base : Heap}
theorem eq_pair {x y : Addr} {a b : Int} {H : Hp} {Q : VK} (hx : H x = some (.tup [.int a, .int b])) (hy : H y = some (.tup [.int a, .int b])) (q : Q (.bl true) H) : rEqD K (.ref x) (.ref y) H Q :=
  ⟨.tuple [.int a, .int b], .tuple [.int a, .int b], .tup (SqT.of hx) (.cons (.int _) (.cons (.int _) .nil)), .tup (SqT.of hy) (.cons (.int _) (.cons (.int _) .nil)), rfl, rfl, by
    rw [show PyData.eqv (.tuple [.int a, .int b]) (.tuple [.int a, .int b]) = true by simp [PyData.eqv, PyData.eqvAll]]
    exact q⟩
theorem max1 {r : Int} : 0 < (if (if r < 0 then -r else r) > 1 then (if r < 0 then -r else r) else 1) ∧ (if (if r < 0 then -r else r) > 1 then (if r < 0 then -r else r) else 1) ≤ r.natAbs + 1 := by
  constructor <;> (repeat' split) <;> omega
theorem split_uniq : ∀ {a a' b b' : List Nat}, a ++ 47 :: b = a' ++ 47 :: b' → 47 ∉ a → 47 ∉ a' → a = a' ∧ b = b'
  | [], [], b, b', h, _, _ => ⟨rfl, by simpa using h⟩
  | [], c :: a', b, b', h, _, h2 => by
    have : 47 = c := by simpa using (List.cons.inj h).1
    exact absurd (by rw [this]; exact List.mem_cons_self) h2
  | c :: a, [], b, b', h, h1, _ => by
    have : c = 47 := by simpa using (List.cons.inj h).1
    exact absurd (by rw [this]; exact List.mem_cons_self) h1
  | c :: a, d :: a', b, b', h, h1, h2 => by
    obtain ⟨e1, e2⟩ := List.cons.inj h
    obtain ⟨e3, e4⟩ := split_uniq e2 (fun z => h1 (List.mem_cons_of_mem _ z)) (fun z => h2 (List.mem_cons_of_mem _ z))
    exact ⟨by rw [e1, e3], e4⟩
theorem rp_flat {l : List Nat} {b : Bool} (h : 47 ∉ l) (r : ratioP l b) : b = false := by
  rcases r with ⟨_, e⟩ | ⟨a, c, rfl, _, _⟩
  · exact e
  · exact absurd (by simp) h
theorem rp_at {a c : List Nat} {b : Bool} (h : 47 ∉ a) (r : ratioP (a ++ 47 :: c) b) : b = (wholeW a && posW c) := by
  rcases r with ⟨z, _⟩ | ⟨a', c', e, h', eb⟩
  · exact absurd (by simp) z
  · obtain ⟨e1, e2⟩ := split_uniq e h h'
    rw [e1, e2]
    exact eb
theorem rp_no {a c l : List Nat} (e : l = a ++ 47 :: c) (h : 47 ∉ a) (ha : wholeW a = true) (hc : posW c = true) : ¬ ratioP l false := fun r => by
  subst e
  have := rp_at h r
  rw [ha, hc] at this
  cases this
def spIs : Sp := fun vs H Q _ => ∃ (t : Addr) (x y p q : Int), vs = [.ref t, .int p, .int q] ∧ H t = some (.tup [.int x, .int y]) ∧ RatOf p q x y ∧ p.natAbs < 2 ^ 200 ∧ q.natAbs < 2 ^ 200 ∧ ∀ H', Same H H' → Q (.bl true) H'
theorem ok_is (T : Txt K mg) : FnOk P w K mg base CX0 2 T.f_is T.fd_is ["_law_told", "_law_top", "_law_bottom"] spIs := by
  have G_whole := ok_whole (P := P) (w := w) (base := base) T
  have G_lowest := ok_lowest (P := P) (w := w) (base := base) T
  refine T.F_is.ok sc_is (fun vs H Q E h => ?_) (fun cdv A outer s H vs Q E hr h => ?_)
  · obtain ⟨t, x, y, p, q, rfl, _⟩ := h
    rfl
  · obtain ⟨t, x, y, p, q, rfl, ht, hrt, hp, hb, hq⟩ := h
    obtain ⟨r1, r2, r3, r4, r5⟩ := id hrt
    refine ⟨_, (pss_cons (ps_if (PW.pt (pw_or (pt_not (pt_val (pe_callB call_isi (by rfl) T.m_isinstance (by decide +kernel) (pa_cons (pv 0) (pa_cons (pe_bltn (v := .ty "tuple") (by rfl) T.m_tuple (by decide +kernel) rfl) pa_nil))))) (pw_or1 (pt_cmpR op_ne (pe_callB call_len_seq (by rfl) T.m_len (by decide +kernel) (pa_cons (pv 0) pa_nil)) pe_int (nomark _))))) (pss_one (ps_ret pe_bl)) pss_nil)
 (pss_cons (ps_if (PW.pt (pw_or (pt_not (pt_val (pe_call G_whole (hr.mono (by decide)) (by rfl) T.g_whole T.F_whole.kp T.b_whole .nil pass0 (pa_cons (pe_ix ix_tup (pv 0) pe_int (fun _ _ => rfl)) pa_nil)))) (pw_or (pt_not (pt_val (pe_call G_whole (hr.mono (by decide)) (by rfl) T.g_whole T.F_whole.kp T.b_whole .nil pass0 (pa_cons (pe_ix ix_tup (pv 0) pe_int (fun _ _ => rfl)) pa_nil)))) (pw_or1 (pt_cmpR op_lt (pe_ix ix_tup (pv 0) pe_int (fun _ _ => rfl)) pe_int (nomark _)))))) (pss_one (ps_ret pe_bl)) pss_nil)
 (pss_one (ps_ret (pe_and (pe_cmpR (op_eqD hr.units) (pe_call G_lowest (hr.mono (by decide)) (by rfl) T.g_lowest T.F_lowest.kp T.b_lowest .nil pass0 (pa_cons (pe_ix ix_tup (pv 0) pe_int (fun _ _ => rfl)) (pa_cons (pe_ix ix_tup (pv 0) pe_int (fun _ _ => rfl)) pa_nil))) (pv 0) (nomark _)) (pe_one (pe_cmpR op_eq (pe_op op_mulW (pe_ix ix_tup (pv 0) pe_int (fun _ _ => rfl)) (pv 2)) (pe_op op_mulW (pv 1) (pe_ix ix_tup (pv 0) pe_int (fun _ _ => rfl))) (nomark _)))))))), ?_⟩
    refine Z.w_start (σ' := [some (.ref t), some (.int p), some (.int q)]) rfl ?_
    walk_at "w"
    refine use_lowest (by omega) (by omega) (by omega) fun t2 ht2 => ?_
    obtain ⟨e1, e2⟩ := low_self r2
    rw [e1, e2]
    walk_at "w"
    refine eq_pair upd_same (by walk_at "hp") ?_
    walk_at "w"
    rw [decide_eq_true r3]
    exact hq _ (by walk_at "same")
theorem use_is {t : Addr} {x y p q : Int} {H : Hp} {Q : VK} {E : XK} (ht : H t = some (.tup [.int x, .int y])) (hr : RatOf p q x y) (hp : p.natAbs < 2 ^ 200) (hq : q.natAbs < 2 ^ 200) (k : ∀ H', Same H H' → Q (.bl true) H') : spIs [.ref t, .int p, .int q] H Q E := ⟨t, x, y, p, q, rfl, ht, hr, hp, hq, k⟩
theorem ok_wholeH (T : Txt K mg) : L2H.FnH P w K mg base CX0 1 T.f_whole T.fd_whole ["_law_value"] spWhole := by
  refine okH T.F_whole sc_whole (fun vs H Q E h => ?_) (fun cdv A outer s H vs Q E p hot hr h => ?_)
  · obtain ⟨i, rfl, _⟩ := h
    rfl
  · obtain ⟨i, rfl, hq⟩ := h
    refine ⟨_, (pss_one (ps_ret (pe_and (pe_callB call_isi (by rfl) T.m_isinstance (by decide +kernel) (pa_cons (pv 0) (pa_cons (pe_bltn (v := .ty "int") (by rfl) T.m_int (by decide +kernel) rfl) pa_nil))) (pe_one (pe_not (pe_callB call_isi (by rfl) T.m_isinstance (by decide +kernel) (pa_cons (pv 0) (pa_cons (pe_bltn (v := .ty "bool") (by rfl) T.m_bool (by decide +kernel) rfl) pa_nil)))))))), ?_⟩
    refine Z.w_start (σ' := [some (.int i)]) rfl ?_
    walk_at "w"
    exact hq
def spRefused : Sp := fun vs H Q _ => ∃ l : List Nat, vs = [.str (S l)] ∧ l.length ≤ 60 ∧ ratioP l false ∧ ∀ H', Same H H' → Q (.bl true) H'
theorem ok_refused (T : Txt K mg) : FnOk P w K mg base CX0 5 T.f_refused T.fd_refused ["_law_text_here"] spRefused := by
  have G_parse_ratio := ok_parse (P := P) (w := w) (base := base) T
  have GH_whole := ok_wholeH (P := P) (w := w) (base := base) T
  refine T.F_refused.ok sc_refused (fun vs H Q E h => ?_) (fun cdv A outer s H vs Q E hr h => ?_)
  · obtain ⟨l, rfl, _⟩ := h
    rfl
  · obtain ⟨l, rfl, hl, hn, h⟩ := h
    refine ⟨_, (pss_cons (L2N.ps_try_as (i := 1)  rfl rfl sc_refused.nd rfl rfl ⟨rfl, by decide, .inl T.c_BadText⟩ X2.takesN (fun W pn xe tk _ => (pss_one (ps_expr (pe_callS G_parse_ratio (hr.mono (by decide)) (by rfl) T.g_parse_ratio T.F_parse_ratio.kp T.b_parse_ratio (fun σ => L2N.passAt tk σ) (by exact (pa_cons (pv 0) pa_nil)))))) (fun a oe cls d pn hz hf => (pss_one (ps_ret (pe_and (L2H.pe_callH GH_whole (X2.roomM (hr.mono (by decide)) _) (X2.hot_of hz hf) (by rfl) T.g_whole T.F_whole.kp T.b_whole X2.passH0 (pa_cons (pe_xf T.xo_BadText.xf T.xo_BadText.no hz.zc hf (pv 1)) pa_nil)) (pe_one (pe_cmpR op_eq (pe_xf T.xo_BadText.xf T.xo_BadText.no hz.zc hf (pv 1)) pe_int (nomark _))))))))
 (pss_one (ps_ret pe_bl))), ?_⟩
    refine Z.w_start (σ' := [some (.str (S l)), none]) rfl ?_
    walk_at "w"
    refine use_parse hl (fun a b x y t H' e1 e2 e3 e4 _ _ _ => absurd hn (rp_no e1 e2 e3 e4)) fun _ d H' s1 hd => ⟨true, T.e_BadText_BadText, fun _ a ha => ?_, fun q => nomatch q⟩
    refine Z.w_start (σ' := [some (.str (S l)), some (.ref a)]) rfl ?_
    walk_at "w"
    exact h _ s1
theorem use_refused {l : List Nat} {H : Hp} {Q : VK} {E : XK} (hl : l.length ≤ 60) (hn : ratioP l false) (h : ∀ H', Same H H' → Q (.bl true) H') : spRefused [.str (S l)] H Q E := ⟨l, rfl, hl, hn, h⟩
theorem ok_refusedB (T : Txt K mg) : FnOk P w K mg base CX0 5 T.f_refused_by_base T.fd_refused_by_base ["_law_text_here"] spRefused := by
  have G_parse_ratio := ok_parse (P := P) (w := w) (base := base) T
  have GH_whole := ok_wholeH (P := P) (w := w) (base := base) T
  refine T.F_refused_by_base.ok sc_refused_by_base (fun vs H Q E h => ?_) (fun cdv A outer s H vs Q E hr h => ?_)
  · obtain ⟨l, rfl, _⟩ := h
    rfl
  · obtain ⟨l, rfl, hl, hn, h⟩ := h
    refine ⟨_, (pss_cons (L2N.ps_try_as (i := 1)  rfl rfl sc_refused_by_base.nd rfl rfl ⟨rfl, by decide, .inl T.c_PaperError⟩ X2.takesN (fun W pn xe tk _ => (pss_one (ps_expr (pe_callS G_parse_ratio (hr.mono (by decide)) (by rfl) T.g_parse_ratio T.F_parse_ratio.kp T.b_parse_ratio (fun σ => L2N.passAt tk σ) (by exact (pa_cons (pv 0) pa_nil)))))) (fun a oe cls d pn hz hf => (pss_cons (ps_if (pt_val (pe_callB (X2.call_isXT hz.zc hf) (by rfl) T.m_isinstance (by decide +kernel) (pa_cons (pv 1) (pa_cons (pe_tup (pa_cons (pe_glob (v := .ref T.C_BadLiteral) (by rfl) T.c_BadLiteral rfl) (pa_cons (pe_glob (v := .ref T.C_BadModel) (by rfl) T.c_BadModel rfl) (pa_cons (pe_glob (v := .ref T.C_BadName) (by rfl) T.c_BadName rfl) (pa_cons (pe_glob (v := .ref T.C_BadNode) (by rfl) T.c_BadNode rfl) (pa_cons (pe_glob (v := .ref T.C_BadRatio) (by rfl) T.c_BadRatio rfl) (pa_cons (pe_glob (v := .ref T.C_BadSort) (by rfl) T.c_BadSort rfl) pa_nil))))))) pa_nil)))) (pss_one (ps_ret pe_bl)) pss_nil)
 (pss_cons (ps_if (pt_val (pe_callB (X2.call_isXT hz.zc hf) (by rfl) T.m_isinstance (by decide +kernel) (pa_cons (pv 1) (pa_cons (pe_tup (pa_cons (pe_glob (v := .ref T.C_NameTaken) (by rfl) T.c_NameTaken rfl) (pa_cons (pe_glob (v := .ref T.C_NoAnswer) (by rfl) T.c_NoAnswer rfl) (pa_cons (pe_glob (v := .ref T.C_NoLevel) (by rfl) T.c_NoLevel rfl) (pa_cons (pe_glob (v := .ref T.C_UnknownName) (by rfl) T.c_UnknownName rfl) pa_nil))))) pa_nil)))) (pss_one (ps_ret pe_bl)) pss_nil)
 (pss_cons (ps_if (PW.pt (pw_or (pt_not (pt_val (pe_callB (X2.call_isX1 hz.zc hf) (by rfl) T.m_isinstance (by decide +kernel) (pa_cons (pv 1) (pa_cons (pe_glob (v := .ref T.C_BadText) (by rfl) T.c_BadText rfl) pa_nil))))) (pw_or1 (pt_not (pt_val (pe_callB (X2.call_isX1 hz.zc hf) (by rfl) T.m_isinstance (by decide +kernel) (pa_cons (pv 1) (pa_cons (pe_bltn (v := .ty "ValueError") (by rfl) T.m_ValueError (by decide +kernel) rfl) pa_nil)))))))) (pss_one (ps_ret pe_bl)) pss_nil)
 (pss_one (ps_ret (pe_and (L2H.pe_callH GH_whole (X2.roomM (hr.mono (by decide)) _) (X2.hot_of hz hf) (by rfl) T.g_whole T.F_whole.kp T.b_whole X2.passH0 (pa_cons (pe_xf T.xo_BadText.xf T.xo_BadText.no hz.zc hf (pv 1)) pa_nil)) (pe_one (pe_cmpR op_eq (pe_xf T.xo_BadText.xf T.xo_BadText.no hz.zc hf (pv 1)) pe_int (nomark _)))))))))))
 (pss_one (ps_ret pe_bl))), ?_⟩
    refine Z.w_start (σ' := [some (.str (S l)), none]) rfl ?_
    walk_at "w"
    refine use_parse hl (fun a b x y t H' e1 e2 e3 e4 _ _ _ => absurd hn (rp_no e1 e2 e3 e4)) fun _ d H' s1 hd => ⟨true, T.e_BadText_PaperError, fun _ a ha => ?_, fun q => nomatch q⟩
    refine Z.w_start (σ' := [some (.str (S l)), some (.ref a)]) rfl ?_
    walk_at "w"
    refine w_isXT T.xo_BadText.xc (by walk_at "hp") (by walk_at "hp") (by repeat constructor) T.i_1 ?_
    walk_at "w"
    refine w_isXT T.xo_BadText.xc (by walk_at "hp") (by walk_at "hp") (by repeat constructor) T.i_2 ?_
    walk_at "w"
    refine w_isX1 T.xo_BadText.xc (by walk_at "hp") (.own _) T.k_BadText_BadText ?_
    walk_at "w"
    refine w_isX1 T.xo_BadText.xc (by walk_at "hp") (.ty _) T.k_BadText_ValueError ?_
    walk_at "w"
    exact h _ (by walk_at "same")
end
end L

namespace L
open PySem PySem.Spec PyProof.Rows L2 Z M MW MT X2
open _root_.SX (S S_len S_cat S_inj)
section
variable {P : Program} {w : World} {K : PySem.W.Frag} {mg : Str → Option Value} {base : Heap}
theorem use_refusedB {l : List Nat} {H : Hp} {Q : VK} {E : XK} (hl : l.length ≤ 60) (hn : ratioP l false) (h : ∀ H', Same H H' → Q (.bl true) H') : spRefused [.str (S l)] H Q E := ⟨l, rfl, hl, hn, h⟩
def spAsked : Sp := fun vs H Q _ => ∃ (l : List Nat) (k : Int), vs = [.str (S l), .int k] ∧ l.length ≤ 60 ∧ ∀ H', Same H H' → Q (.bl true) H'
theorem vz_app {a b : List Nat} (ha : wholeW a = true) : (if (a ++ 47 :: b).head? = some 45 then -((dv (strip a) : Nat) : Int) else ((dv (strip a) : Nat) : Int)) = vz a := by
  cases a with
  | nil => exact absurd ha (by decide)
  | cons c r => rfl
theorem dv_bound {l : List Nat} (h : l.all dg = true) (hl : l.length ≤ 60) : dv l < 2 ^ 200 := Nat.lt_of_lt_of_le (dv_lt l h) (Nat.le_trans (Nat.pow_le_pow_right (by decide) hl) (by decide))
theorem strip_dg {a : List Nat} (h : wholeW a = true) : (strip a).all dg = true := by
  rcases Bool.or_eq_true_iff.mp h with e | e
  · have e := of_decide_eq_true e
    subst e
    decide
  · exact (pos_all e).1
theorem vz_bound {a : List Nat} (h : wholeW a = true) (hl : a.length ≤ 60) : (vz a).natAbs < 2 ^ 200 := by
  have k := dv_bound (strip_dg h) (Nat.le_trans (strip_len a) hl)
  have e : (vz a).natAbs = dv (strip a) := by
    unfold vz
    split <;> omega
  rw [e]
  exact k
theorem ok_asked (T : Txt K mg) : FnOk P w K mg base CX0 6 T.f_asked T.fd_asked ["_law_text_here", "_law_how"] spAsked := by
  have G_read := ok_read (P := P) (w := w) (base := base) T
  have G_is_whole_word := ok_wholeW (P := P) (w := w) (base := base) T
  have G_is_ratio_word := ok_ratioW (P := P) (w := w) (base := base) T
  have G_parse_ratio := ok_parse (P := P) (w := w) (base := base) T
  have G_is := ok_is (P := P) (w := w) (base := base) T
  have G_refused := ok_refused (P := P) (w := w) (base := base) T
  have G_refused_by_base := ok_refusedB (P := P) (w := w) (base := base) T
  refine T.F_asked.ok sc_asked (fun vs H Q E h => ?_) (fun cdv A outer s H vs Q E hr h => ?_)
  · obtain ⟨l, k, rfl, _⟩ := h
    rfl
  · obtain ⟨l, k, rfl, hl, h⟩ := h
    refine ⟨_, (pss_cons (ps_asg (pe_call G_read (hr.mono (by decide)) (by rfl) T.g_read T.F_read.kp T.b_read .nil pass0 (pa_cons (pv 0) pa_nil)) (pg_tup (by rfl) (pgs_cons (pg_name (i := 2) sc_asked.nd rfl (.inl rfl)) (pgs_cons (pg_name (i := 3) sc_asked.nd rfl (.inl rfl)) (pgs_cons (pg_name (i := 4) sc_asked.nd rfl (.inl rfl)) pgs_nil)))))
 (pss_cons (ps_set (i := 5) sc_asked.nd rfl (.inl rfl) (pe_call G_is_whole_word (hr.mono (by decide)) (by rfl) T.g_is_whole_word T.F_is_whole_word.kp T.b_is_whole_word .nil pass0 (pa_cons (pv 0) pa_nil)))
 (pss_cons (ps_if (PW.pt (pw_or (pt_not (pt_val (pe_callB call_isi (by rfl) T.m_isinstance (by decide +kernel) (pa_cons (pv 5) (pa_cons (pe_bltn (v := .ty "bool") (by rfl) T.m_bool (by decide +kernel) rfl) pa_nil))))) (pw_or1 (pt_cmpR op_ne (pv 5) (pe_or (pe_cmpR op_eq (pv 2) pe_int (nomark _)) (pe_one (pe_cmpR op_eq (pv 2) pe_int (nomark _)))) (nomark _))))) (pss_one (ps_ret pe_bl)) pss_nil)
 (pss_cons (ps_set (i := 5) sc_asked.nd rfl (.inl rfl) (pe_call G_is_ratio_word (hr.mono (by decide)) (by rfl) T.g_is_ratio_word T.F_is_ratio_word.kp T.b_is_ratio_word .nil pass0 (pa_cons (pv 0) pa_nil)))
 (pss_cons (ps_if (PW.pt (pw_or (pt_not (pt_val (pe_callB call_isi (by rfl) T.m_isinstance (by decide +kernel) (pa_cons (pv 5) (pa_cons (pe_bltn (v := .ty "bool") (by rfl) T.m_bool (by decide +kernel) rfl) pa_nil))))) (pw_or1 (pt_cmpR op_ne (pv 5) (pe_cmpR op_eq (pv 2) pe_int (nomark _)) (nomark _))))) (pss_one (ps_ret pe_bl)) pss_nil)
 (pss_cons (ps_if (pt_cmpR op_eq (pv 2) pe_int (nomark _)) (pss_one (ps_ret (pe_call G_is (hr.mono (by decide)) (by rfl) T.g_is T.F_is.kp T.b_is .nil pass0 (pa_cons (pe_call G_parse_ratio (hr.mono (by decide)) (by rfl) T.g_parse_ratio T.F_parse_ratio.kp T.b_parse_ratio .nil X2.passN (pa_cons (pv 0) pa_nil)) (pa_cons (pv 3) (pa_cons (pv 4) pa_nil)))))) pss_nil)
 (pss_cons (ps_if (pt_cmpR op_eq (pv 1) pe_int (nomark _)) (pss_one (ps_ret (pe_call G_refused (hr.mono (by decide)) (by rfl) T.g_refused T.F_refused.kp T.b_refused .nil pass0 (pa_cons (pv 0) pa_nil)))) pss_nil)
 (pss_one (ps_ret (pe_call G_refused_by_base (hr.mono (by decide)) (by rfl) T.g_refused_by_base T.F_refused_by_base.kp T.b_refused_by_base .nil pass0 (pa_cons (pv 0) pa_nil))))))))))), ?_⟩
    refine Z.w_start (σ' := [some (.str (S l)), some (.int k), none, none, none, none]) rfl ?_
    walk_at "w"
    refine use_read (by omega) fun s t es ht => ?_
    have s1 : ∀ o, Same H (upd H t o) := fun o => same_of (Same.refl _) ht
    have he := run_end l
    rw [← es] at he
    cases he with
    | flat s hn h5 hw =>
      by_cases h2 : s.1 = 2
      · have ew : wholeW l = true := hw.mp (.inl h2)
        walk_at "w"
        refine use_wholeW (by omega) ?_
        rw [ew]
        walk_at "w"
        refine use_ratioW (by omega) fun H2 b2 s2 hb2 => ?_
        have eb := rp_flat hn hb2
        subst eb
        have s3 := (s1 _).trans s2
        walk_at "w"
        rw [decide_eq_false (show ¬ (s.1 : Int) = 5 by omega)]
        walk_at "w"
        walk_at "wi"
        · walk_at "w"
          exact use_refused hl hb2 fun H3 s4 => h _ (s3.trans s4)
        · walk_at "w"
          exact use_refusedB hl hb2 fun H3 s4 => h _ (s3.trans s4)
      · by_cases h3 : s.1 = 3
        · have ew : wholeW l = true := hw.mp (.inr h3)
          walk_at "w"
          refine use_wholeW (by omega) ?_
          rw [ew]
          walk_at "w"
          rw [decide_eq_true (show (s.1 : Int) = 3 by omega)]
          walk_at "w"
          refine use_ratioW (by omega) fun H2 b2 s2 hb2 => ?_
          have eb := rp_flat hn hb2
          subst eb
          have s3 := (s1 _).trans s2
          walk_at "w"
          rw [decide_eq_false (show ¬ (s.1 : Int) = 5 by omega)]
          walk_at "w"
          walk_at "wi"
          · walk_at "w"
            exact use_refused hl hb2 fun H3 s4 => h _ (s3.trans s4)
          · walk_at "w"
            exact use_refusedB hl hb2 fun H3 s4 => h _ (s3.trans s4)
        · have ew : wholeW l = false := Bool.eq_false_iff.mpr fun z => by
            have := hw.mpr z
            omega
          walk_at "w"
          refine use_wholeW (by omega) ?_
          rw [ew]
          walk_at "w"
          rw [decide_eq_false (show ¬ (s.1 : Int) = 3 by omega)]
          walk_at "w"
          refine use_ratioW (by omega) fun H2 b2 s2 hb2 => ?_
          have eb := rp_flat hn hb2
          subst eb
          have s3 := (s1 _).trans s2
          walk_at "w"
          rw [decide_eq_false (show ¬ (s.1 : Int) = 5 by omega)]
          walk_at "w"
          walk_at "wi"
          · walk_at "w"
            exact use_refused hl hb2 fun H3 s4 => h _ (s3.trans s4)
          · walk_at "w"
            exact use_refusedB hl hb2 fun H3 s4 => h _ (s3.trans s4)
    | bad s a b e hn hab h5 =>
      obtain ⟨h5, h2, h3⟩ := h5
      have ew : wholeW l = false := Bool.eq_false_iff.mpr fun z => by
        have := whole_free z
        rw [e] at this
        exact this (by simp)
      walk_at "w"
      refine use_wholeW (by omega) ?_
      rw [ew]
      walk_at "w"
      rw [decide_eq_false (show ¬ (s.1 : Int) = 3 by omega)]
      walk_at "w"
      refine use_ratioW (by omega) fun H2 b2 s2 hb2 => ?_
      have eb : b2 = false := by
        have k2 := hb2
        rw [e] at k2
        rw [rp_at hn k2, hab]
      subst eb
      have s3 := (s1 _).trans s2
      walk_at "w"
      rw [decide_eq_false (show ¬ (s.1 : Int) = 5 by omega)]
      walk_at "w"
      walk_at "wi"
      · walk_at "w"
        exact use_refused hl hb2 fun H3 s4 => h _ (s3.trans s4)
      · walk_at "w"
        exact use_refusedB hl hb2 fun H3 s4 => h _ (s3.trans s4)
    | good a b e hn ha hb =>
      subst e
      have ew : wholeW (a ++ 47 :: b) = false := Bool.eq_false_iff.mpr fun z => whole_free z (by simp)
      have ev := vz_app (b := b) ha
      rw [List.length_append, List.length_cons] at hl
      have bv := vz_bound ha (by omega)
      have bd := dv_bound (pos_all hb).1 (by omega)
      walk_at "w"
      refine use_wholeW (by rw [List.length_append, List.length_cons]; omega) ?_
      rw [ew]
      walk_at "w"
      refine use_ratioW (by rw [List.length_append, List.length_cons]; omega) fun H2 b2 s2 hb2 => ?_
      have eb : b2 = true := by rw [rp_at hn hb2, ha, hb]; rfl
      subst eb
      have s3 := (s1 _).trans s2
      walk_at "w"
      try rw [decide_eq_true (show (((5 : Nat) : Int) = 5) from rfl)]
      walk_at "w"
      refine use_parse (by rw [List.length_append, List.length_cons]; omega) (fun a' b' x y t' H' e1 e2 e3 e4 rt sm ht' => ?_) (fun z => absurd z (rp_no rfl hn ha hb))
      obtain ⟨u1, u2⟩ := split_uniq e1 hn e2
      subst u1 u2
      walk_at "w"
      rw [ev]
      exact use_is ht' rt bv (by rw [Int.natAbs_natCast]; exact bd) fun H3 s4 => h _ ((s3.trans sm).trans s4)
theorem use_asked {l : List Nat} {k : Int} {H : Hp} {Q : VK} {E : XK} (hl : l.length ≤ 60) (h : ∀ H', Same H H' → Q (.bl true) H') : spAsked [.str (S l), .int k] H Q E := ⟨l, k, rfl, hl, h⟩
end
end L

namespace L
open PySem PySem.Spec PyProof.Rows L2 Z M MW MT X2
open _root_.SX (S S_len S_cat S_inj)
section
variable {P : Program} {w : World} {K : PySem.W.Frag} {mg : Str → Option Value} {base : Heap}
def spWritten : Sp := fun vs H Q _ => ∃ (t : Addr) (x y : Int), vs = [.ref t] ∧ H t = some (.tup [.int x, .int y]) ∧ -(10 ^ 20 : Int) < x ∧ x < 10 ^ 20 ∧ 1 ≤ y ∧ y < 10 ^ 20 ∧ Nat.gcd x.natAbs y.natAbs = 1 ∧ ∀ H', Same H H' → Q (.bl true) H'
theorem ok_written (T : Txt K mg) : FnOk P w K mg base CX0 6 T.f_written T.fd_written ["_law_pair"] spWritten := by
  have G_ratio_text := ok_rtext (P := P) (w := w) (base := base) T
  have G_is_ratio_word := ok_ratioW (P := P) (w := w) (base := base) T
  have G_parse_ratio := ok_parse (P := P) (w := w) (base := base) T
  have G_is := ok_is (P := P) (w := w) (base := base) T
  refine T.F_written.ok sc_written (fun vs H Q E h => ?_) (fun cdv A outer s H vs Q E hr h => ?_)
  · obtain ⟨t, x, y, rfl, _⟩ := h
    rfl
  · obtain ⟨t, x, y, rfl, ht, h1, h2, h3, h4, hg, h⟩ := h
    refine ⟨_, (pss_cons (ps_set (i := 1) sc_written.nd rfl (.inl rfl) (pe_op MT.op_addS (pe_op MT.op_addS (pe_callTy MT.call_strI (by rfl) T.m_str (by decide +kernel) (pa_cons (pe_ix ix_tup (pv 0) pe_int (fun _ _ => rfl)) pa_nil)) (MT.pe_strS (l := [47]) (by decide +kernel))) (pe_callTy MT.call_strI (by rfl) T.m_str (by decide +kernel) (pa_cons (pe_ix ix_tup (pv 0) pe_int (fun _ _ => rfl)) pa_nil))))
 (pss_cons (ps_set (i := 2) sc_written.nd rfl (.inl rfl) (pe_call G_ratio_text (hr.mono (by decide)) (by rfl) T.g_ratio_text T.F_ratio_text.kp T.b_ratio_text .nil pass0 (pa_cons (pv 0) pa_nil)))
 (pss_cons (ps_if (PW.pt (pw_or (pt_not (pt_val (pe_callB call_isi (by rfl) T.m_isinstance (by decide +kernel) (pa_cons (pv 2) (pa_cons (pe_bltn (v := .ty "str") (by rfl) T.m_str (by decide +kernel) rfl) pa_nil))))) (pw_or1 (pt_cmpR op_ne (pv 2) (pv 1) (nomark _))))) (pss_one (ps_ret pe_bl)) pss_nil)
 (pss_one (ps_ret (pe_and (pe_cmpR op_is_bl (pe_call G_is_ratio_word (hr.mono (by decide)) (by rfl) T.g_is_ratio_word T.F_is_ratio_word.kp T.b_is_ratio_word .nil pass0 (pa_cons (pv 1) pa_nil)) pe_bl (nomark _)) (pe_one (pe_call G_is (hr.mono (by decide)) (by rfl) T.g_is T.F_is.kp T.b_is .nil pass0 (pa_cons (pe_call G_parse_ratio (hr.mono (by decide)) (by rfl) T.g_parse_ratio T.F_parse_ratio.kp T.b_parse_ratio .nil X2.passN (pa_cons (pv 1) pa_nil)) (pa_cons (pe_ix ix_tup (pv 0) pe_int (fun _ _ => rfl)) (pa_cons (pe_ix ix_tup (pv 0) pe_int (fun _ _ => rfl)) pa_nil))))))))))), ?_⟩
    refine Z.w_start (σ' := [some (.ref t), none, none]) rfl ?_
    have l1 := nz_len h1 h2
    have l2 := nz_len (show -(10 ^ 20 : Int) < y by omega) h4
    have hn : 47 ∉ nz x := whole_free (nz_whole x)
    have ey : nz y = TL.numL y.natAbs := by
      unfold nz
      rw [if_neg (by omega)]
    have hp : posW (nz y) = true := by
      rw [ey]
      exact numL_posW _ (by omega)
    have evy : (dv (nz y) : Int) = y := by
      rw [ey, dv_num]
      omega
    walk_at "w"
    refine use_rtext ht h1 h2 (by omega) h4 ?_
    rw [List.append_assoc, List.singleton_append]
    walk_at "w"
    refine use_ratioW (by rw [List.length_append, List.length_cons]; omega) fun H2 b s2 hb => ?_
    have eb : b = true := by rw [rp_at hn hb, nz_whole, hp]; rfl
    subst eb
    walk_at "w"
    refine use_parse (by rw [List.length_append, List.length_cons]; omega) (fun a' b' x2 y2 t' H' e1 e2 e3 e4 rt sm ht' => ?_) (fun z => absurd z (rp_no rfl hn (nz_whole x) hp))
    obtain ⟨u1, u2⟩ := split_uniq e1 hn e2
    subst u1 u2
    rw [nz_val, evy] at rt
    have s3 := s2.trans sm
    have ht3 := s3 _ _ ht
    walk_at "w"
    exact use_is ht' rt (by omega) (by omega) fun H3 s4 => h _ (s3.trans s4)
theorem use_written {t : Addr} {x y : Int} {H : Hp} {Q : VK} {E : XK} (ht : H t = some (.tup [.int x, .int y])) (h1 : -(10 ^ 20 : Int) < x) (h2 : x < 10 ^ 20) (h3 : 1 ≤ y) (h4 : y < 10 ^ 20) (hg : Nat.gcd x.natAbs y.natAbs = 1) (h : ∀ H', Same H H' → Q (.bl true) H') : spWritten [.ref t] H Q E := ⟨t, x, y, rfl, ht, h1, h2, h3, h4, hg, h⟩
theorem use_pool {a : Addr} {ns : List Int} {k : Int} {H : Hp} {Q : VK} {E : XK} (hS : SqL K H a (ns.map V.int)) (hl : ns.length ≤ 1000) (h0 : 0 ≤ k) (h1 : k < 2 ^ 62) (h : ∀ q o, H q = none → IsPool o → Q (.ref q) (upd H q o)) : spPool K [.ref a, .int k] H Q E := ⟨a, ns, k, rfl, hS, hl, h0, h1, h⟩
def spLaw (K : PySem.W.Frag) : Sp := fun vs H Q _ => ∃ (a : Addr) (ns : List Int), vs = [.ref a] ∧ SqL K H a (ns.map V.int) ∧ ns.length ≤ 63 ∧ ∀ H', Q (.bl true) H'
theorem ok_law (T : Txt K mg) : FnOk P w K mg base CX0 7 T.f_law T.fd_law ["_law_script"] (spLaw K) := by
  have G_pool := ok_pool (P := P) (w := w) (base := base) T
  have G_take := ok_take (P := P) (w := w) (base := base) T
  have G_text := ok_text (P := P) (w := w) (base := base) T
  have G_sized := ok_sized (P := P) (w := w) (base := base) T
  have G_lowest := ok_lowest (P := P) (w := w) (base := base) T
  have G_asked := ok_asked (P := P) (w := w) (base := base) T
  have G_written := ok_written (P := P) (w := w) (base := base) T
  refine T.F_law.ok sc_law (fun vs H Q E h => ?_) (fun cdv A outer s H vs Q E hr h => ?_)
  · obtain ⟨a, ns, rfl, _⟩ := h
    rfl
  · obtain ⟨a, ns, rfl, hS, hl, h⟩ := h
    refine ⟨_, (pss_cons (ps_for PassesOwn.never rfl (pi_range1 (by rfl) T.m_range (pa_cons (pe_callB (call_max2 rfl) (by rfl) T.m_max (by decide +kernel) (pa_cons pe_int (pa_cons (pe_callB (call_min2 rfl) (by rfl) T.m_min (by decide +kernel) (pa_cons pe_int (pa_cons (pe_callB call_len_seq (by rfl) T.m_len (by decide +kernel) (pa_cons (pv 0) pa_nil)) pa_nil))) pa_nil))) pa_nil)) (pg_name (i := 1) sc_law.nd rfl (.inl rfl)) (pss_cons (ps_set (i := 2) sc_law.nd rfl (.inl rfl) (pe_call G_pool (hr.mono (by decide)) (by rfl) T.g_pool T.F_pool.kp T.b_pool .nil pass0 (pa_cons (pv 0) (pa_cons (pv 1) pa_nil))))
 (pss_cons (ps_set (i := 3) sc_law.nd rfl (.inl rfl) (pe_call G_text (hr.mono (by decide)) (by rfl) T.g_text T.F_text.kp T.b_text .nil pass0 (pa_cons (pv 2) pa_nil)))
 (pss_cons (ps_set (i := 4) sc_law.nd rfl (.inl rfl) (pe_call G_take (hr.mono (by decide)) (by rfl) T.g_take T.F_take.kp T.b_take .nil pass0 (pa_cons (pv 2) (pa_cons pe_int pa_nil))))
 (pss_cons (ps_set (i := 5) sc_law.nd rfl (.inl rfl) (pe_call G_sized (hr.mono (by decide)) (by rfl) T.g_sized T.F_sized.kp T.b_sized .nil pass0 (pa_cons (pv 2) (pa_cons pe_int pa_nil))))
 (pss_cons (ps_set (i := 6) sc_law.nd rfl (.inl rfl) (pe_call G_lowest (hr.mono (by decide)) (by rfl) T.g_lowest T.F_lowest.kp T.b_lowest .nil pass0 (pa_cons (pv 5) (pa_cons (pe_callB (call_max2 rfl) (by rfl) T.m_max (by decide +kernel) (pa_cons pe_int (pa_cons (pe_callB call_abs (by rfl) T.m_abs (by decide +kernel) (pa_cons (pe_call G_sized (hr.mono (by decide)) (by rfl) T.g_sized T.F_sized.kp T.b_sized .nil pass0 (pa_cons (pv 2) (pa_cons pe_int pa_nil))) pa_nil)) pa_nil))) pa_nil))))
 (pss_one (ps_if (PW.pt (pw_or (pt_not (pt_val (pe_call G_asked (hr.mono (by decide)) (by rfl) T.g_asked T.F_asked.kp T.b_asked .nil pass0 (pa_cons (pv 3) (pa_cons (pv 4) pa_nil))))) (pw_or (pt_not (pt_val (pe_call G_written (hr.mono (by decide)) (by rfl) T.g_written T.F_written.kp T.b_written .nil pass0 (pa_cons (pv 6) pa_nil)))) (pw_or1 (pt_not (pt_val (pe_call G_asked (hr.mono (by decide)) (by rfl) T.g_asked T.F_asked.kp T.b_asked .nil pass0 (pa_cons (pv 3) (pa_cons (pe_op op_sub pe_int (pv 4)) pa_nil))))))))) (pss_one (ps_ret pe_bl)) pss_nil))))))))
 (pss_one (ps_ret pe_bl))), ?_⟩
    refine Z.w_start (σ' := [some (.ref a), none, none, none, none, none, none]) rfl ?_
    walk_at "w"
    refine ⟨by walk_at "sz", by walk_at "sz", ?_⟩
    refine for_range (lo := 0) (n := _) (fun i σ H' => ∃ (x1 x2 x3 x4 x5 x6 : Option V), σ = [some (.ref a), x1, x2, x3, x4, x5, x6] ∧ Same H H') ?_ ?_ ?_
    · exact ⟨_, _, _, _, _, _, rfl, Same.refl _⟩
    · rintro i σ H' hi ⟨x1, x2, x3, x4, x5, x6, rfl, sm⟩
      have hS' := sm.seq hS
      have h8 : i < 8 := by
        revert hi
        walk_at "sz"
      walk_at "w"
      refine use_pool hS' (by omega) (by omega) (by omega) fun q o hq1 hp1 => ?_
      walk_at "w"
      refine use_text upd_same hp1 fun l H1 hl1 d1 => ?_
      have k1 : Same H' H1 := d1.same hq1
      obtain ⟨_, o1, ho1, hp2⟩ := d1
      walk_at "w"
      rename_i r1 o2 a1 a2 hp3 r2 o3 b1 b2 hp4 r3 o4 c1 c2 hp5
      have m := max1 (r := r3)
      refine use_lowest m.1 (by omega) (by omega) fun t ht => ?_
      have k2 : ∀ o5, Same H' (upd (upd H1 q o5) t (.tup [.int (lowP r2 (if (if r3 < 0 then -r3 else r3) > 1 then (if r3 < 0 then -r3 else r3) else 1)), .int (lowQ r2 (if (if r3 < 0 then -r3 else r3) > 1 then (if r3 < 0 then -r3 else r3) else 1))])) := fun o5 b x e => by
        have nq : b ≠ q := ne_of_none e hq1
        have e1 := k1 b x e
        have nt : b ≠ t := by
          intro z
          subst z
          rw [upd_ne nq, e1] at ht
          cases ht
        rw [upd_ne nt, upd_ne nq]
        exact e1
      have hlo := lo_low (p := r2) m.1 (by omega) (by omega) (by omega)
      obtain ⟨z1, z2, z3, z4, z5⟩ := rat_pos (p := r2) m.1
      obtain ⟨y1, y2, y3, y4, y5⟩ := hlo
      walk_at "w"
      refine use_asked hl1 fun H3 s3 => ?_
      walk_at "w"
      refine use_written (s3 _ _ upd_same) (by unfold lowP; omega) (by unfold lowP; omega) y1 (by unfold lowQ; omega) y5 fun H4 s4 => ?_
      walk_at "w"
      refine use_asked hl1 fun H5 s5 => ?_
      walk_at "w"
      exact ⟨_, _, _, _, _, _, rfl, sm.trans ((((k2 _).trans s3).trans s4).trans s5)⟩
    · rintro σ H' ⟨x1, x2, x3, x4, x5, x6, rfl, sm⟩
      walk_at "w"
      exact h _
end
end L

namespace X0
end X0
namespace L
open PySem PySem.Spec PyProof.Rows L2 Z X0
theorem all_mk {l : PySem.W.OpenLaw} {w : World} {K : PySem.W.Frag} {h : Heap} {mg : Str → Option Value} {fa : Addr} (X : K.In h) (G : h.Ns mainGlobals mg) (hfa : mg "law" = some (.ref fa))
    {f_whole_text : Addr} {od_whole_text an_whole_text : Option Addr} {sl_whole_text : Array (Option Value)} {oc_whole_text kV_whole_text dc_whole_text pm_whole_text cd_whole_text ct_whole_text  : Value}
    {f_read_whole : Addr} {od_read_whole an_read_whole : Option Addr} {sl_read_whole : Array (Option Value)} {oc_read_whole kV_read_whole dc_read_whole pm_read_whole cd_read_whole ct_read_whole  : Value}
    {f_is_whole_word : Addr} {od_is_whole_word an_is_whole_word : Option Addr} {sl_is_whole_word : Array (Option Value)} {oc_is_whole_word kV_is_whole_word dc_is_whole_word pm_is_whole_word cd_is_whole_word ct_is_whole_word  : Value}
    {f_is_ratio_word : Addr} {od_is_ratio_word an_is_ratio_word : Option Addr} {sl_is_ratio_word : Array (Option Value)} {oc_is_ratio_word kV_is_ratio_word dc_is_ratio_word pm_is_ratio_word cd_is_ratio_word ct_is_ratio_word  : Value}
    {f_is_positive_word : Addr} {od_is_positive_word an_is_positive_word : Option Addr} {sl_is_positive_word : Array (Option Value)} {oc_is_positive_word kV_is_positive_word dc_is_positive_word pm_is_positive_word cd_is_positive_word ct_is_positive_word  : Value}
    {f_ratio : Addr} {od_ratio an_ratio : Option Addr} {sl_ratio : Array (Option Value)} {oc_ratio kV_ratio dc_ratio pm_ratio cd_ratio ct_ratio  : Value}
    {T_ratio : Addr} {cT_ratio : Value} {dT_ratio : Option Addr} {lT_ratio : Array (Option Value)} {nT_ratio : Nat} {u_tok : Tok}
    {f_ratio_text : Addr} {od_ratio_text an_ratio_text : Option Addr} {sl_ratio_text : Array (Option Value)} {oc_ratio_text kV_ratio_text dc_ratio_text pm_ratio_text cd_ratio_text ct_ratio_text  : Value}
    {f_parse_ratio : Addr} {od_parse_ratio an_parse_ratio : Option Addr} {sl_parse_ratio : Array (Option Value)} {oc_parse_ratio kV_parse_ratio dc_parse_ratio pm_parse_ratio cd_parse_ratio ct_parse_ratio  : Value}
    {f_pool : Addr} {od_pool an_pool : Option Addr} {sl_pool : Array (Option Value)} {oc_pool kV_pool dc_pool pm_pool cd_pool ct_pool  : Value}
    {f_take : Addr} {od_take an_take : Option Addr} {sl_take : Array (Option Value)} {oc_take kV_take dc_take pm_take cd_take ct_take  : Value}
    {f_whole : Addr} {od_whole an_whole : Option Addr} {sl_whole : Array (Option Value)} {oc_whole kV_whole dc_whole pm_whole cd_whole ct_whole  : Value}
    {f_sized : Addr} {od_sized an_sized : Option Addr} {sl_sized : Array (Option Value)} {oc_sized kV_sized dc_sized pm_sized cd_sized ct_sized  : Value}
    {f_lowest : Addr} {od_lowest an_lowest : Option Addr} {sl_lowest : Array (Option Value)} {oc_lowest kV_lowest dc_lowest pm_lowest cd_lowest ct_lowest  : Value}
    {f_digits : Addr} {od_digits an_digits : Option Addr} {sl_digits : Array (Option Value)} {oc_digits kV_digits dc_digits pm_digits cd_digits ct_digits  : Value}
    {f_word : Addr} {od_word an_word : Option Addr} {sl_word : Array (Option Value)} {oc_word kV_word dc_word pm_word cd_word ct_word  : Value}
    {f_signs : Addr} {od_signs an_signs : Option Addr} {sl_signs : Array (Option Value)} {oc_signs kV_signs dc_signs pm_signs cd_signs ct_signs  : Value}
    {f_sign : Addr} {od_sign an_sign : Option Addr} {sl_sign : Array (Option Value)} {oc_sign kV_sign dc_sign pm_sign cd_sign ct_sign  : Value}
    {f_spoilt : Addr} {od_spoilt an_spoilt : Option Addr} {sl_spoilt : Array (Option Value)} {oc_spoilt kV_spoilt dc_spoilt pm_spoilt cd_spoilt ct_spoilt  : Value}
    {f_odd : Addr} {od_odd an_odd : Option Addr} {sl_odd : Array (Option Value)} {oc_odd kV_odd dc_odd pm_odd cd_odd ct_odd  : Value}
    {f_free : Addr} {od_free an_free : Option Addr} {sl_free : Array (Option Value)} {oc_free kV_free dc_free pm_free cd_free ct_free  : Value}
    {f_text : Addr} {od_text an_text : Option Addr} {sl_text : Array (Option Value)} {oc_text kV_text dc_text pm_text cd_text ct_text  : Value}
    {f_step : Addr} {od_step an_step : Option Addr} {sl_step : Array (Option Value)} {oc_step kV_step dc_step pm_step cd_step ct_step  : Value}
    {f_read : Addr} {od_read an_read : Option Addr} {sl_read : Array (Option Value)} {oc_read kV_read dc_read pm_read cd_read ct_read  : Value}
    {f_is : Addr} {od_is an_is : Option Addr} {sl_is : Array (Option Value)} {oc_is kV_is dc_is pm_is cd_is ct_is  : Value}
    {f_refused : Addr} {od_refused an_refused : Option Addr} {sl_refused : Array (Option Value)} {oc_refused kV_refused dc_refused pm_refused cd_refused ct_refused  : Value}
    {f_refused_by_base : Addr} {od_refused_by_base an_refused_by_base : Option Addr} {sl_refused_by_base : Array (Option Value)} {oc_refused_by_base kV_refused_by_base dc_refused_by_base pm_refused_by_base cd_refused_by_base ct_refused_by_base  : Value}
    {f_asked : Addr} {od_asked an_asked : Option Addr} {sl_asked : Array (Option Value)} {oc_asked kV_asked dc_asked pm_asked cd_asked ct_asked  : Value}
    {f_written : Addr} {od_written an_written : Option Addr} {sl_written : Array (Option Value)} {oc_written kV_written dc_written pm_written cd_written ct_written  : Value}
    {f_law : Addr} {od_law an_law : Option Addr} {sl_law : Array (Option Value)} {oc_law kV_law dc_law pm_law cd_law ct_law  : Value}
    {C_BadText : Addr}
    {C_PaperError : Addr}
    {C_BadLiteral : Addr}
    {C_BadModel : Addr}
    {C_BadName : Addr}
    {C_BadNode : Addr}
    {C_BadRatio : Addr}
    {C_BadSort : Addr}
    {C_NameTaken : Addr}
    {C_NoAnswer : Addr}
    {C_NoLevel : Addr}
    {C_UnknownName : Addr}
    {nm_BadText q_BadText : Str} {N_BadText : Addr} {bs_BadText : List Value} {sn_BadText : List Str} {sub_BadText : List Value} {ab_BadText : Bool} {col_BadText : Option Bool} {dd_BadText : Option Addr} {m0_BadText m1_BadText m2_BadText m3_BadText m5_BadText : Option Value}
    {f_BadText_init : Addr} {od_BadText_init an_BadText_init : Option Addr} {sl_BadText_init : Array (Option Value)} {oc_BadText_init kV_BadText_init dc_BadText_init pm_BadText_init cd_BadText_init ct_BadText_init : Value}
    {t_BASE : Tok}
    {t_PIECE : Tok}
    (a_whole_text : PySem.W.nsIn K mainGlobals "whole_text" = some (some (.ref f_whole_text)))
    (l_whole_text : K.lookup f_whole_text = some ⟨oc_whole_text, od_whole_text, .func (PySem.W.fnOf "whole_text" "whole_text" (defArgs s_whole_text) (defBody s_whole_text) (defScope s_whole_text) .none kV_whole_text dc_whole_text pm_whole_text an_whole_text cd_whole_text ct_whole_text), sl_whole_text⟩)
    (c_whole_text : PySem.W.codeIn K cd_whole_text "whole_text" = true)
    (k_whole_text : PySem.W.keepIn K (.ref f_whole_text) = true)
    (a_read_whole : PySem.W.nsIn K mainGlobals "read_whole" = some (some (.ref f_read_whole)))
    (l_read_whole : K.lookup f_read_whole = some ⟨oc_read_whole, od_read_whole, .func (PySem.W.fnOf "read_whole" "read_whole" (defArgs s_read_whole) (defBody s_read_whole) (defScope s_read_whole) .none kV_read_whole dc_read_whole pm_read_whole an_read_whole cd_read_whole ct_read_whole), sl_read_whole⟩)
    (c_read_whole : PySem.W.codeIn K cd_read_whole "read_whole" = true)
    (k_read_whole : PySem.W.keepIn K (.ref f_read_whole) = true)
    (a_is_whole_word : PySem.W.nsIn K mainGlobals "is_whole_word" = some (some (.ref f_is_whole_word)))
    (l_is_whole_word : K.lookup f_is_whole_word = some ⟨oc_is_whole_word, od_is_whole_word, .func (PySem.W.fnOf "is_whole_word" "is_whole_word" (defArgs s_is_whole_word) (defBody s_is_whole_word) (defScope s_is_whole_word) .none kV_is_whole_word dc_is_whole_word pm_is_whole_word an_is_whole_word cd_is_whole_word ct_is_whole_word), sl_is_whole_word⟩)
    (c_is_whole_word : PySem.W.codeIn K cd_is_whole_word "is_whole_word" = true)
    (k_is_whole_word : PySem.W.keepIn K (.ref f_is_whole_word) = true)
    (a_is_ratio_word : PySem.W.nsIn K mainGlobals "is_ratio_word" = some (some (.ref f_is_ratio_word)))
    (l_is_ratio_word : K.lookup f_is_ratio_word = some ⟨oc_is_ratio_word, od_is_ratio_word, .func (PySem.W.fnOf "is_ratio_word" "is_ratio_word" (defArgs s_is_ratio_word) (defBody s_is_ratio_word) (defScope s_is_ratio_word) .none kV_is_ratio_word dc_is_ratio_word pm_is_ratio_word an_is_ratio_word cd_is_ratio_word ct_is_ratio_word), sl_is_ratio_word⟩)
    (c_is_ratio_word : PySem.W.codeIn K cd_is_ratio_word "is_ratio_word" = true)
    (k_is_ratio_word : PySem.W.keepIn K (.ref f_is_ratio_word) = true)
    (a_is_positive_word : PySem.W.nsIn K mainGlobals "_is_positive_word" = some (some (.ref f_is_positive_word)))
    (l_is_positive_word : K.lookup f_is_positive_word = some ⟨oc_is_positive_word, od_is_positive_word, .func (PySem.W.fnOf "_is_positive_word" "_is_positive_word" (defArgs s_is_positive_word) (defBody s_is_positive_word) (defScope s_is_positive_word) .none kV_is_positive_word dc_is_positive_word pm_is_positive_word an_is_positive_word cd_is_positive_word ct_is_positive_word), sl_is_positive_word⟩)
    (c_is_positive_word : PySem.W.codeIn K cd_is_positive_word "_is_positive_word" = true)
    (k_is_positive_word : PySem.W.keepIn K (.ref f_is_positive_word) = true)
    (a_ratio : PySem.W.nsIn K mainGlobals "ratio" = some (some (.ref f_ratio)))
    (l_ratio : K.lookup f_ratio = some ⟨oc_ratio, od_ratio, .func (PySem.W.fnOf "ratio" "ratio" (defArgs s_ratio) (defBody s_ratio) (defScope s_ratio) (.ref T_ratio) kV_ratio dc_ratio pm_ratio an_ratio cd_ratio ct_ratio), sl_ratio⟩)
    (c_ratio : PySem.W.codeIn K cd_ratio "ratio" = true)
    (k_ratio : PySem.W.keepIn K (.ref f_ratio) = true)
    (t_ratio : K.lookup T_ratio = some ⟨cT_ratio, dT_ratio, .seq #[.int 1 u_tok] nT_ratio, lT_ratio⟩)
    (a_ratio_text : PySem.W.nsIn K mainGlobals "ratio_text" = some (some (.ref f_ratio_text)))
    (l_ratio_text : K.lookup f_ratio_text = some ⟨oc_ratio_text, od_ratio_text, .func (PySem.W.fnOf "ratio_text" "ratio_text" (defArgs s_ratio_text) (defBody s_ratio_text) (defScope s_ratio_text) .none kV_ratio_text dc_ratio_text pm_ratio_text an_ratio_text cd_ratio_text ct_ratio_text), sl_ratio_text⟩)
    (c_ratio_text : PySem.W.codeIn K cd_ratio_text "ratio_text" = true)
    (k_ratio_text : PySem.W.keepIn K (.ref f_ratio_text) = true)
    (a_parse_ratio : PySem.W.nsIn K mainGlobals "parse_ratio" = some (some (.ref f_parse_ratio)))
    (l_parse_ratio : K.lookup f_parse_ratio = some ⟨oc_parse_ratio, od_parse_ratio, .func (PySem.W.fnOf "parse_ratio" "parse_ratio" (defArgs s_parse_ratio) (defBody s_parse_ratio) (defScope s_parse_ratio) .none kV_parse_ratio dc_parse_ratio pm_parse_ratio an_parse_ratio cd_parse_ratio ct_parse_ratio), sl_parse_ratio⟩)
    (c_parse_ratio : PySem.W.codeIn K cd_parse_ratio "parse_ratio" = true)
    (k_parse_ratio : PySem.W.keepIn K (.ref f_parse_ratio) = true)
    (a_pool : PySem.W.nsIn K mainGlobals "_law_pool" = some (some (.ref f_pool)))
    (l_pool : K.lookup f_pool = some ⟨oc_pool, od_pool, .func (PySem.W.fnOf "_law_pool" "_law_pool" (defArgs s_pool) (defBody s_pool) (defScope s_pool) .none kV_pool dc_pool pm_pool an_pool cd_pool ct_pool), sl_pool⟩)
    (c_pool : PySem.W.codeIn K cd_pool "_law_pool" = true)
    (k_pool : PySem.W.keepIn K (.ref f_pool) = true)
    (a_take : PySem.W.nsIn K mainGlobals "_law_take" = some (some (.ref f_take)))
    (l_take : K.lookup f_take = some ⟨oc_take, od_take, .func (PySem.W.fnOf "_law_take" "_law_take" (defArgs s_take) (defBody s_take) (defScope s_take) .none kV_take dc_take pm_take an_take cd_take ct_take), sl_take⟩)
    (c_take : PySem.W.codeIn K cd_take "_law_take" = true)
    (k_take : PySem.W.keepIn K (.ref f_take) = true)
    (a_whole : PySem.W.nsIn K mainGlobals "_law_whole" = some (some (.ref f_whole)))
    (l_whole : K.lookup f_whole = some ⟨oc_whole, od_whole, .func (PySem.W.fnOf "_law_whole" "_law_whole" (defArgs s_whole) (defBody s_whole) (defScope s_whole) .none kV_whole dc_whole pm_whole an_whole cd_whole ct_whole), sl_whole⟩)
    (c_whole : PySem.W.codeIn K cd_whole "_law_whole" = true)
    (k_whole : PySem.W.keepIn K (.ref f_whole) = true)
    (a_sized : PySem.W.nsIn K mainGlobals "_law_sized" = some (some (.ref f_sized)))
    (l_sized : K.lookup f_sized = some ⟨oc_sized, od_sized, .func (PySem.W.fnOf "_law_sized" "_law_sized" (defArgs s_sized) (defBody s_sized) (defScope s_sized) .none kV_sized dc_sized pm_sized an_sized cd_sized ct_sized), sl_sized⟩)
    (c_sized : PySem.W.codeIn K cd_sized "_law_sized" = true)
    (k_sized : PySem.W.keepIn K (.ref f_sized) = true)
    (a_lowest : PySem.W.nsIn K mainGlobals "_law_lowest" = some (some (.ref f_lowest)))
    (l_lowest : K.lookup f_lowest = some ⟨oc_lowest, od_lowest, .func (PySem.W.fnOf "_law_lowest" "_law_lowest" (defArgs s_lowest) (defBody s_lowest) (defScope s_lowest) .none kV_lowest dc_lowest pm_lowest an_lowest cd_lowest ct_lowest), sl_lowest⟩)
    (c_lowest : PySem.W.codeIn K cd_lowest "_law_lowest" = true)
    (k_lowest : PySem.W.keepIn K (.ref f_lowest) = true)
    (a_digits : PySem.W.nsIn K mainGlobals "_law_digits" = some (some (.ref f_digits)))
    (l_digits : K.lookup f_digits = some ⟨oc_digits, od_digits, .func (PySem.W.fnOf "_law_digits" "_law_digits" (defArgs s_digits) (defBody s_digits) (defScope s_digits) .none kV_digits dc_digits pm_digits an_digits cd_digits ct_digits), sl_digits⟩)
    (c_digits : PySem.W.codeIn K cd_digits "_law_digits" = true)
    (k_digits : PySem.W.keepIn K (.ref f_digits) = true)
    (a_word : PySem.W.nsIn K mainGlobals "_law_word" = some (some (.ref f_word)))
    (l_word : K.lookup f_word = some ⟨oc_word, od_word, .func (PySem.W.fnOf "_law_word" "_law_word" (defArgs s_word) (defBody s_word) (defScope s_word) .none kV_word dc_word pm_word an_word cd_word ct_word), sl_word⟩)
    (c_word : PySem.W.codeIn K cd_word "_law_word" = true)
    (k_word : PySem.W.keepIn K (.ref f_word) = true)
    (a_signs : PySem.W.nsIn K mainGlobals "_law_signs" = some (some (.ref f_signs)))
    (l_signs : K.lookup f_signs = some ⟨oc_signs, od_signs, .func (PySem.W.fnOf "_law_signs" "_law_signs" (defArgs s_signs) (defBody s_signs) (defScope s_signs) .none kV_signs dc_signs pm_signs an_signs cd_signs ct_signs), sl_signs⟩)
    (c_signs : PySem.W.codeIn K cd_signs "_law_signs" = true)
    (k_signs : PySem.W.keepIn K (.ref f_signs) = true)
    (a_sign : PySem.W.nsIn K mainGlobals "_law_sign" = some (some (.ref f_sign)))
    (l_sign : K.lookup f_sign = some ⟨oc_sign, od_sign, .func (PySem.W.fnOf "_law_sign" "_law_sign" (defArgs s_sign) (defBody s_sign) (defScope s_sign) .none kV_sign dc_sign pm_sign an_sign cd_sign ct_sign), sl_sign⟩)
    (c_sign : PySem.W.codeIn K cd_sign "_law_sign" = true)
    (k_sign : PySem.W.keepIn K (.ref f_sign) = true)
    (a_spoilt : PySem.W.nsIn K mainGlobals "_law_spoilt" = some (some (.ref f_spoilt)))
    (l_spoilt : K.lookup f_spoilt = some ⟨oc_spoilt, od_spoilt, .func (PySem.W.fnOf "_law_spoilt" "_law_spoilt" (defArgs s_spoilt) (defBody s_spoilt) (defScope s_spoilt) .none kV_spoilt dc_spoilt pm_spoilt an_spoilt cd_spoilt ct_spoilt), sl_spoilt⟩)
    (c_spoilt : PySem.W.codeIn K cd_spoilt "_law_spoilt" = true)
    (k_spoilt : PySem.W.keepIn K (.ref f_spoilt) = true)
    (a_odd : PySem.W.nsIn K mainGlobals "_law_odd" = some (some (.ref f_odd)))
    (l_odd : K.lookup f_odd = some ⟨oc_odd, od_odd, .func (PySem.W.fnOf "_law_odd" "_law_odd" (defArgs s_odd) (defBody s_odd) (defScope s_odd) .none kV_odd dc_odd pm_odd an_odd cd_odd ct_odd), sl_odd⟩)
    (c_odd : PySem.W.codeIn K cd_odd "_law_odd" = true)
    (k_odd : PySem.W.keepIn K (.ref f_odd) = true)
    (a_free : PySem.W.nsIn K mainGlobals "_law_free" = some (some (.ref f_free)))
    (l_free : K.lookup f_free = some ⟨oc_free, od_free, .func (PySem.W.fnOf "_law_free" "_law_free" (defArgs s_free) (defBody s_free) (defScope s_free) .none kV_free dc_free pm_free an_free cd_free ct_free), sl_free⟩)
    (c_free : PySem.W.codeIn K cd_free "_law_free" = true)
    (k_free : PySem.W.keepIn K (.ref f_free) = true)
    (a_text : PySem.W.nsIn K mainGlobals "_law_text" = some (some (.ref f_text)))
    (l_text : K.lookup f_text = some ⟨oc_text, od_text, .func (PySem.W.fnOf "_law_text" "_law_text" (defArgs s_text) (defBody s_text) (defScope s_text) .none kV_text dc_text pm_text an_text cd_text ct_text), sl_text⟩)
    (c_text : PySem.W.codeIn K cd_text "_law_text" = true)
    (k_text : PySem.W.keepIn K (.ref f_text) = true)
    (a_step : PySem.W.nsIn K mainGlobals "_law_step" = some (some (.ref f_step)))
    (l_step : K.lookup f_step = some ⟨oc_step, od_step, .func (PySem.W.fnOf "_law_step" "_law_step" (defArgs s_step) (defBody s_step) (defScope s_step) .none kV_step dc_step pm_step an_step cd_step ct_step), sl_step⟩)
    (c_step : PySem.W.codeIn K cd_step "_law_step" = true)
    (k_step : PySem.W.keepIn K (.ref f_step) = true)
    (a_read : PySem.W.nsIn K mainGlobals "_law_read" = some (some (.ref f_read)))
    (l_read : K.lookup f_read = some ⟨oc_read, od_read, .func (PySem.W.fnOf "_law_read" "_law_read" (defArgs s_read) (defBody s_read) (defScope s_read) .none kV_read dc_read pm_read an_read cd_read ct_read), sl_read⟩)
    (c_read : PySem.W.codeIn K cd_read "_law_read" = true)
    (k_read : PySem.W.keepIn K (.ref f_read) = true)
    (a_is : PySem.W.nsIn K mainGlobals "_law_is" = some (some (.ref f_is)))
    (l_is : K.lookup f_is = some ⟨oc_is, od_is, .func (PySem.W.fnOf "_law_is" "_law_is" (defArgs s_is) (defBody s_is) (defScope s_is) .none kV_is dc_is pm_is an_is cd_is ct_is), sl_is⟩)
    (c_is : PySem.W.codeIn K cd_is "_law_is" = true)
    (k_is : PySem.W.keepIn K (.ref f_is) = true)
    (a_refused : PySem.W.nsIn K mainGlobals "_law_refused" = some (some (.ref f_refused)))
    (l_refused : K.lookup f_refused = some ⟨oc_refused, od_refused, .func (PySem.W.fnOf "_law_refused" "_law_refused" (defArgs s_refused) (defBody s_refused) (defScope s_refused) .none kV_refused dc_refused pm_refused an_refused cd_refused ct_refused), sl_refused⟩)
    (c_refused : PySem.W.codeIn K cd_refused "_law_refused" = true)
    (k_refused : PySem.W.keepIn K (.ref f_refused) = true)
    (a_refused_by_base : PySem.W.nsIn K mainGlobals "_law_refused_by_base" = some (some (.ref f_refused_by_base)))
    (l_refused_by_base : K.lookup f_refused_by_base = some ⟨oc_refused_by_base, od_refused_by_base, .func (PySem.W.fnOf "_law_refused_by_base" "_law_refused_by_base" (defArgs s_refused_by_base) (defBody s_refused_by_base) (defScope s_refused_by_base) .none kV_refused_by_base dc_refused_by_base pm_refused_by_base an_refused_by_base cd_refused_by_base ct_refused_by_base), sl_refused_by_base⟩)
    (c_refused_by_base : PySem.W.codeIn K cd_refused_by_base "_law_refused_by_base" = true)
    (k_refused_by_base : PySem.W.keepIn K (.ref f_refused_by_base) = true)
    (a_asked : PySem.W.nsIn K mainGlobals "_law_asked" = some (some (.ref f_asked)))
    (l_asked : K.lookup f_asked = some ⟨oc_asked, od_asked, .func (PySem.W.fnOf "_law_asked" "_law_asked" (defArgs s_asked) (defBody s_asked) (defScope s_asked) .none kV_asked dc_asked pm_asked an_asked cd_asked ct_asked), sl_asked⟩)
    (c_asked : PySem.W.codeIn K cd_asked "_law_asked" = true)
    (k_asked : PySem.W.keepIn K (.ref f_asked) = true)
    (a_written : PySem.W.nsIn K mainGlobals "_law_written" = some (some (.ref f_written)))
    (l_written : K.lookup f_written = some ⟨oc_written, od_written, .func (PySem.W.fnOf "_law_written" "_law_written" (defArgs s_written) (defBody s_written) (defScope s_written) .none kV_written dc_written pm_written an_written cd_written ct_written), sl_written⟩)
    (c_written : PySem.W.codeIn K cd_written "_law_written" = true)
    (k_written : PySem.W.keepIn K (.ref f_written) = true)
    (a_law : PySem.W.nsIn K mainGlobals "law" = some (some (.ref f_law)))
    (l_law : K.lookup f_law = some ⟨oc_law, od_law, .func (PySem.W.fnOf "law" "law" (defArgs s_law) (defBody s_law) (defScope s_law) .none kV_law dc_law pm_law an_law cd_law ct_law), sl_law⟩)
    (c_law : PySem.W.codeIn K cd_law "law" = true)
    (k_law : PySem.W.keepIn K (.ref f_law) = true)
    (m_len : PySem.W.nsIn K mainGlobals "len" = some none)
    (m_int : PySem.W.nsIn K mainGlobals "int" = some none)
    (m_abs : PySem.W.nsIn K mainGlobals "abs" = some none)
    (m_min : PySem.W.nsIn K mainGlobals "min" = some none)
    (m_max : PySem.W.nsIn K mainGlobals "max" = some none)
    (m_isinstance : PySem.W.nsIn K mainGlobals "isinstance" = some none)
    (m_range : PySem.W.nsIn K mainGlobals "range" = some none)
    (m_bool : PySem.W.nsIn K mainGlobals "bool" = some none)
    (m_str : PySem.W.nsIn K mainGlobals "str" = some none)
    (m_tuple : PySem.W.nsIn K mainGlobals "tuple" = some none)
    (m_reversed : PySem.W.nsIn K mainGlobals "reversed" = some none)
    (m_ValueError : PySem.W.nsIn K mainGlobals "ValueError" = some none)
    (m_divmod : PySem.W.nsIn K mainGlobals "divmod" = some none)
    (n_BadText : PySem.W.nsIn K mainGlobals "BadText" = some (some (.ref C_BadText)))
    (n_PaperError : PySem.W.nsIn K mainGlobals "PaperError" = some (some (.ref C_PaperError)))
    (n_BadLiteral : PySem.W.nsIn K mainGlobals "BadLiteral" = some (some (.ref C_BadLiteral)))
    (n_BadModel : PySem.W.nsIn K mainGlobals "BadModel" = some (some (.ref C_BadModel)))
    (n_BadName : PySem.W.nsIn K mainGlobals "BadName" = some (some (.ref C_BadName)))
    (n_BadNode : PySem.W.nsIn K mainGlobals "BadNode" = some (some (.ref C_BadNode)))
    (n_BadRatio : PySem.W.nsIn K mainGlobals "BadRatio" = some (some (.ref C_BadRatio)))
    (n_BadSort : PySem.W.nsIn K mainGlobals "BadSort" = some (some (.ref C_BadSort)))
    (n_NameTaken : PySem.W.nsIn K mainGlobals "NameTaken" = some (some (.ref C_NameTaken)))
    (n_NoAnswer : PySem.W.nsIn K mainGlobals "NoAnswer" = some (some (.ref C_NoAnswer)))
    (n_NoLevel : PySem.W.nsIn K mainGlobals "NoLevel" = some (some (.ref C_NoLevel)))
    (n_UnknownName : PySem.W.nsIn K mainGlobals "UnknownName" = some (some (.ref C_UnknownName)))
    (a_BadText_init : PySem.W.findIn K (.ref C_BadText) "__init__" = some (some (.ref f_BadText_init)))
    (i_BadText_init : PySem.W.typeIn K (.ref f_BadText_init) = some (.type "function"))
    (l_BadText_init : K.lookup f_BadText_init = some ⟨oc_BadText_init, od_BadText_init, .func (PySem.W.fnOf "__init__" "BadText.__init__" (defArgs s_BadText_init) (defBody s_BadText_init) (defScope s_BadText_init) .none kV_BadText_init dc_BadText_init pm_BadText_init an_BadText_init cd_BadText_init ct_BadText_init), sl_BadText_init⟩)
    (c_BadText_init : PySem.W.codeIn K cd_BadText_init "BadText.__init__" = true)
    (k_BadText_init : PySem.W.keepIn K (.ref f_BadText_init) = true)
    (n_BASE : PySem.W.nsIn K mainGlobals "BASE" = some (some (.int (10 ^ 64) t_BASE)))
    (n_PIECE : PySem.W.nsIn K mainGlobals "PIECE" = some (some (.int 64 t_PIECE)))
    (rd_PaperError : PySem.W.readsIn K C_PaperError (.type "type") = true)
    (ga_PaperError : PySem.W.specialIn K (.ref C_PaperError) "__getattribute__" = some (some (.builtin "type.__getattribute__")))
    (vi_PaperError : PySem.W.findCls K (.ref C_PaperError) (.type "type") "__init__" = some (.val (.builtin "ValueError.__init__")))
    (xL_BadText : K.lookup C_BadText = some (excClassObj nm_BadText q_BadText C_BadText N_BadText bs_BadText [.ref C_PaperError, .type "ValueError", .type "Exception", .type "BaseException", .type "object"] true sn_BadText sub_BadText ab_BadText col_BadText dd_BadText m0_BadText m1_BadText m2_BadText m3_BadText m5_BadText "ValueError.__new__"))
    (sa_BadText : PySem.W.findIn K (.ref C_BadText) "__setattr__" = some (some (.builtin "object.__setattr__")))
    (eC_BadText : PySem.W.subIn K (.ref C_BadText) (.type "BaseException") = some true)
    (tC_BadText : PySem.W.typeIn K (.ref C_BadText) = some (.type "type"))
    (kC_BadText : PySem.W.keepIn K (.ref C_BadText) = true)
    (hg_BadText : PySem.W.findIn K (.ref C_BadText) "__getattribute__" = some (some (.builtin "BaseException.__getattribute__")))
    (hk_BadText : PySem.W.findIn K (.ref C_BadText) "__getattr__" = some none)
    (hd_BadText : PySem.W.hasDictIn K C_BadText = true)
    (ha_BadText : PySem.W.findIn K (.ref C_BadText) "__class__" = some (some (.builtin "object.__class__")))
    (hm_BadText : PySem.W.mroIn K C_BadText (.type "object") = some true)
    (no_BadText : PySem.W.findIn K (.ref C_BadText) "place" = some none)
    (x_hn : PySem.W.specialIn K (.builtin "object.__class__") "__get__" = some (some (.builtin "getset_descriptor.__get__")))
    (x_ht : PySem.W.takesIn K (.builtin "object.__class__") = some true)
    (e_BadText_BadText : PySem.W.exmOne K (.ref C_BadText) (.ref C_BadText) = some true)
    (e_BadText_PaperError : PySem.W.exmOne K (.ref C_BadText) (.ref C_PaperError) = some true)
    (k_BadText_BadText : PySem.W.kitOne K (.ref C_BadText) (.ref C_BadText) = some true)
    (k_BadText_ValueError : PySem.W.kitOne K (.ref C_BadText) (.type "ValueError") = some true)
    (i_1 : PySem.W.kitAny K (.ref C_BadText) [.ref C_BadLiteral, .ref C_BadModel, .ref C_BadName, .ref C_BadNode, .ref C_BadRatio, .ref C_BadSort] = some false)
    (i_2 : PySem.W.kitAny K (.ref C_BadText) [.ref C_NameTaken, .ref C_NoAnswer, .ref C_NoLevel, .ref C_UnknownName] = some false)
    (mgcd : PySem.W.nsIn K mainGlobals "gcd" = some (some (.builtin "math.gcd"))) :
    ∃ fd : FuncData, (∀ (s : Shared) (v : Value), BindsTo s fd ⟨[v], []⟩ [("_law_script", v)]) ∧ ∀ base : Heap, K.In base → base.Ns mainGlobals mg → FnOk l.prog w K mg base CX0 7 fa fd ["_law_script"] (spLaw K) := by
  have e := hfa.symm.trans (PySem.W.mg_of X G a_law)
  have e2 : f_law = fa := by
    cases e
    rfl
  subst e2
  let T : Txt K mg := {
    f_whole_text := f_whole_text, fd_whole_text := _, F_whole_text := fun_mk (st := s_whole_text) l_whole_text c_whole_text k_whole_text, b_whole_text := (fun_mk (st := s_whole_text) l_whole_text c_whole_text k_whole_text).binds (ps := ["number"]) fun _ _ _ _ _ _ us hl => match us, hl with | [_], _ => rfl, g_whole_text := PySem.W.mg_of X G a_whole_text,
    f_read_whole := f_read_whole, fd_read_whole := _, F_read_whole := fun_mk (st := s_read_whole) l_read_whole c_read_whole k_read_whole, b_read_whole := (fun_mk (st := s_read_whole) l_read_whole c_read_whole k_read_whole).binds (ps := ["word"]) fun _ _ _ _ _ _ us hl => match us, hl with | [_], _ => rfl, g_read_whole := PySem.W.mg_of X G a_read_whole,
    f_is_whole_word := f_is_whole_word, fd_is_whole_word := _, F_is_whole_word := fun_mk (st := s_is_whole_word) l_is_whole_word c_is_whole_word k_is_whole_word, b_is_whole_word := (fun_mk (st := s_is_whole_word) l_is_whole_word c_is_whole_word k_is_whole_word).binds (ps := ["text"]) fun _ _ _ _ _ _ us hl => match us, hl with | [_], _ => rfl, g_is_whole_word := PySem.W.mg_of X G a_is_whole_word,
    f_is_ratio_word := f_is_ratio_word, fd_is_ratio_word := _, F_is_ratio_word := fun_mk (st := s_is_ratio_word) l_is_ratio_word c_is_ratio_word k_is_ratio_word, b_is_ratio_word := (fun_mk (st := s_is_ratio_word) l_is_ratio_word c_is_ratio_word k_is_ratio_word).binds (ps := ["text"]) fun _ _ _ _ _ _ us hl => match us, hl with | [_], _ => rfl, g_is_ratio_word := PySem.W.mg_of X G a_is_ratio_word,
    f_is_positive_word := f_is_positive_word, fd_is_positive_word := _, F_is_positive_word := fun_mk (st := s_is_positive_word) l_is_positive_word c_is_positive_word k_is_positive_word, b_is_positive_word := (fun_mk (st := s_is_positive_word) l_is_positive_word c_is_positive_word k_is_positive_word).binds (ps := ["text"]) fun _ _ _ _ _ _ us hl => match us, hl with | [_], _ => rfl, g_is_positive_word := PySem.W.mg_of X G a_is_positive_word,
    f_ratio := f_ratio, fd_ratio := (PySem.W.fnOf "ratio" "ratio" (defArgs s_ratio) (defBody s_ratio) (defScope s_ratio) (.ref T_ratio) kV_ratio dc_ratio pm_ratio an_ratio cd_ratio ct_ratio), F_ratio := ⟨⟨_, _, _, _, _, _, _, _, _, _, rfl, l_ratio, c_ratio, .inr ⟨by decide, T_ratio, _, _, nT_ratio, rfl, t_ratio, rfl, (.cons ⟨_, rfl⟩ .nil : Vals [.int 1] [.int 1 u_tok])⟩, .inl rfl⟩, k_ratio⟩, g_ratio := PySem.W.mg_of X G a_ratio,
    f_ratio_text := f_ratio_text, fd_ratio_text := _, F_ratio_text := fun_mk (st := s_ratio_text) l_ratio_text c_ratio_text k_ratio_text, b_ratio_text := (fun_mk (st := s_ratio_text) l_ratio_text c_ratio_text k_ratio_text).binds (ps := ["a"]) fun _ _ _ _ _ _ us hl => match us, hl with | [_], _ => rfl, g_ratio_text := PySem.W.mg_of X G a_ratio_text,
    f_parse_ratio := f_parse_ratio, fd_parse_ratio := _, F_parse_ratio := fun_mk (st := s_parse_ratio) l_parse_ratio c_parse_ratio k_parse_ratio, b_parse_ratio := (fun_mk (st := s_parse_ratio) l_parse_ratio c_parse_ratio k_parse_ratio).binds (ps := ["text"]) fun _ _ _ _ _ _ us hl => match us, hl with | [_], _ => rfl, g_parse_ratio := PySem.W.mg_of X G a_parse_ratio,
    f_pool := f_pool, fd_pool := _, F_pool := fun_mk (st := s_pool) l_pool c_pool k_pool, b_pool := (fun_mk (st := s_pool) l_pool c_pool k_pool).binds (ps := ["_law_script", "_law_k"]) fun _ _ _ _ _ _ us hl => match us, hl with | [_, _], _ => rfl, g_pool := PySem.W.mg_of X G a_pool,
    f_take := f_take, fd_take := _, F_take := fun_mk (st := s_take) l_take c_take k_take, b_take := (fun_mk (st := s_take) l_take c_take k_take).binds (ps := ["_law_pool_here", "_law_size"]) fun _ _ _ _ _ _ us hl => match us, hl with | [_, _], _ => rfl, g_take := PySem.W.mg_of X G a_take,
    f_whole := f_whole, fd_whole := _, F_whole := fun_mk (st := s_whole) l_whole c_whole k_whole, b_whole := (fun_mk (st := s_whole) l_whole c_whole k_whole).binds (ps := ["_law_value"]) fun _ _ _ _ _ _ us hl => match us, hl with | [_], _ => rfl, g_whole := PySem.W.mg_of X G a_whole,
    f_sized := f_sized, fd_sized := _, F_sized := fun_mk (st := s_sized) l_sized c_sized k_sized, b_sized := (fun_mk (st := s_sized) l_sized c_sized k_sized).binds (ps := ["_law_pool_here", "_law_pieces"]) fun _ _ _ _ _ _ us hl => match us, hl with | [_, _], _ => rfl, g_sized := PySem.W.mg_of X G a_sized,
    f_lowest := f_lowest, fd_lowest := _, F_lowest := fun_mk (st := s_lowest) l_lowest c_lowest k_lowest, b_lowest := (fun_mk (st := s_lowest) l_lowest c_lowest k_lowest).binds (ps := ["_law_p", "_law_q"]) fun _ _ _ _ _ _ us hl => match us, hl with | [_, _], _ => rfl, g_lowest := PySem.W.mg_of X G a_lowest,
    f_digits := f_digits, fd_digits := _, F_digits := fun_mk (st := s_digits) l_digits c_digits k_digits, b_digits := (fun_mk (st := s_digits) l_digits c_digits k_digits).binds (ps := ["_law_pool_here", "_law_most"]) fun _ _ _ _ _ _ us hl => match us, hl with | [_, _], _ => rfl, g_digits := PySem.W.mg_of X G a_digits,
    f_word := f_word, fd_word := _, F_word := fun_mk (st := s_word) l_word c_word k_word, b_word := (fun_mk (st := s_word) l_word c_word k_word).binds (ps := ["_law_pool_here", "_law_most"]) fun _ _ _ _ _ _ us hl => match us, hl with | [_, _], _ => rfl, g_word := PySem.W.mg_of X G a_word,
    f_signs := f_signs, fd_signs := _, F_signs := fun_mk (st := s_signs) l_signs c_signs k_signs, b_signs := (fun_mk (st := s_signs) l_signs c_signs k_signs).binds (ps := []) fun _ _ _ _ _ _ us hl => match us, hl with | [], _ => rfl, g_signs := PySem.W.mg_of X G a_signs,
    f_sign := f_sign, fd_sign := _, F_sign := fun_mk (st := s_sign) l_sign c_sign k_sign, b_sign := (fun_mk (st := s_sign) l_sign c_sign k_sign).binds (ps := ["_law_pool_here"]) fun _ _ _ _ _ _ us hl => match us, hl with | [_], _ => rfl, g_sign := PySem.W.mg_of X G a_sign,
    f_spoilt := f_spoilt, fd_spoilt := _, F_spoilt := fun_mk (st := s_spoilt) l_spoilt c_spoilt k_spoilt, b_spoilt := (fun_mk (st := s_spoilt) l_spoilt c_spoilt k_spoilt).binds (ps := ["_law_pool_here", "_law_text_here"]) fun _ _ _ _ _ _ us hl => match us, hl with | [_, _], _ => rfl, g_spoilt := PySem.W.mg_of X G a_spoilt,
    f_odd := f_odd, fd_odd := _, F_odd := fun_mk (st := s_odd) l_odd c_odd k_odd, b_odd := (fun_mk (st := s_odd) l_odd c_odd k_odd).binds (ps := ["_law_pool_here"]) fun _ _ _ _ _ _ us hl => match us, hl with | [_], _ => rfl, g_odd := PySem.W.mg_of X G a_odd,
    f_free := f_free, fd_free := _, F_free := fun_mk (st := s_free) l_free c_free k_free, b_free := (fun_mk (st := s_free) l_free c_free k_free).binds (ps := ["_law_pool_here"]) fun _ _ _ _ _ _ us hl => match us, hl with | [_], _ => rfl, g_free := PySem.W.mg_of X G a_free,
    f_text := f_text, fd_text := _, F_text := fun_mk (st := s_text) l_text c_text k_text, b_text := (fun_mk (st := s_text) l_text c_text k_text).binds (ps := ["_law_pool_here"]) fun _ _ _ _ _ _ us hl => match us, hl with | [_], _ => rfl, g_text := PySem.W.mg_of X G a_text,
    f_step := f_step, fd_step := _, F_step := fun_mk (st := s_step) l_step c_step k_step, b_step := (fun_mk (st := s_step) l_step c_step k_step).binds (ps := ["_law_state", "_law_sign_here"]) fun _ _ _ _ _ _ us hl => match us, hl with | [_, _], _ => rfl, g_step := PySem.W.mg_of X G a_step,
    f_read := f_read, fd_read := _, F_read := fun_mk (st := s_read) l_read c_read k_read, b_read := (fun_mk (st := s_read) l_read c_read k_read).binds (ps := ["_law_text_here"]) fun _ _ _ _ _ _ us hl => match us, hl with | [_], _ => rfl, g_read := PySem.W.mg_of X G a_read,
    f_is := f_is, fd_is := _, F_is := fun_mk (st := s_is) l_is c_is k_is, b_is := (fun_mk (st := s_is) l_is c_is k_is).binds (ps := ["_law_told", "_law_top", "_law_bottom"]) fun _ _ _ _ _ _ us hl => match us, hl with | [_, _, _], _ => rfl, g_is := PySem.W.mg_of X G a_is,
    f_refused := f_refused, fd_refused := _, F_refused := fun_mk (st := s_refused) l_refused c_refused k_refused, b_refused := (fun_mk (st := s_refused) l_refused c_refused k_refused).binds (ps := ["_law_text_here"]) fun _ _ _ _ _ _ us hl => match us, hl with | [_], _ => rfl, g_refused := PySem.W.mg_of X G a_refused,
    f_refused_by_base := f_refused_by_base, fd_refused_by_base := _, F_refused_by_base := fun_mk (st := s_refused_by_base) l_refused_by_base c_refused_by_base k_refused_by_base, b_refused_by_base := (fun_mk (st := s_refused_by_base) l_refused_by_base c_refused_by_base k_refused_by_base).binds (ps := ["_law_text_here"]) fun _ _ _ _ _ _ us hl => match us, hl with | [_], _ => rfl, g_refused_by_base := PySem.W.mg_of X G a_refused_by_base,
    f_asked := f_asked, fd_asked := _, F_asked := fun_mk (st := s_asked) l_asked c_asked k_asked, b_asked := (fun_mk (st := s_asked) l_asked c_asked k_asked).binds (ps := ["_law_text_here", "_law_how"]) fun _ _ _ _ _ _ us hl => match us, hl with | [_, _], _ => rfl, g_asked := PySem.W.mg_of X G a_asked,
    f_written := f_written, fd_written := _, F_written := fun_mk (st := s_written) l_written c_written k_written, b_written := (fun_mk (st := s_written) l_written c_written k_written).binds (ps := ["_law_pair"]) fun _ _ _ _ _ _ us hl => match us, hl with | [_], _ => rfl, g_written := PySem.W.mg_of X G a_written,
    f_law := f_law, fd_law := _, F_law := fun_mk (st := s_law) l_law c_law k_law, b_law := (fun_mk (st := s_law) l_law c_law k_law).binds (ps := ["_law_script"]) fun _ _ _ _ _ _ us hl => match us, hl with | [_], _ => rfl, g_law := PySem.W.mg_of X G a_law,
    m_len := PySem.W.mg_none_of X G m_len,
    m_int := PySem.W.mg_none_of X G m_int,
    m_abs := PySem.W.mg_none_of X G m_abs,
    m_min := PySem.W.mg_none_of X G m_min,
    m_max := PySem.W.mg_none_of X G m_max,
    m_isinstance := PySem.W.mg_none_of X G m_isinstance,
    m_range := PySem.W.mg_none_of X G m_range,
    m_bool := PySem.W.mg_none_of X G m_bool,
    m_str := PySem.W.mg_none_of X G m_str,
    m_tuple := PySem.W.mg_none_of X G m_tuple,
    m_reversed := PySem.W.mg_none_of X G m_reversed,
    m_ValueError := PySem.W.mg_none_of X G m_ValueError,
    m_divmod := PySem.W.mg_none_of X G m_divmod,
    C_BadText := C_BadText, c_BadText := PySem.W.mg_of X G n_BadText,
    C_PaperError := C_PaperError, c_PaperError := PySem.W.mg_of X G n_PaperError,
    C_BadLiteral := C_BadLiteral, c_BadLiteral := PySem.W.mg_of X G n_BadLiteral,
    C_BadModel := C_BadModel, c_BadModel := PySem.W.mg_of X G n_BadModel,
    C_BadName := C_BadName, c_BadName := PySem.W.mg_of X G n_BadName,
    C_BadNode := C_BadNode, c_BadNode := PySem.W.mg_of X G n_BadNode,
    C_BadRatio := C_BadRatio, c_BadRatio := PySem.W.mg_of X G n_BadRatio,
    C_BadSort := C_BadSort, c_BadSort := PySem.W.mg_of X G n_BadSort,
    C_NameTaken := C_NameTaken, c_NameTaken := PySem.W.mg_of X G n_NameTaken,
    C_NoAnswer := C_NoAnswer, c_NoAnswer := PySem.W.mg_of X G n_NoAnswer,
    C_NoLevel := C_NoLevel, c_NoLevel := PySem.W.mg_of X G n_NoLevel,
    C_UnknownName := C_UnknownName, c_UnknownName := PySem.W.mg_of X G n_UnknownName,
    f_BadText_init := f_BadText_init, fd_BadText_init := _, F_BadText_init := fun_mk (st := s_BadText_init) l_BadText_init c_BadText_init k_BadText_init, b_BadText_init := (fun_mk (st := s_BadText_init) l_BadText_init c_BadText_init k_BadText_init).binds (ps := ["self", "place"]) fun _ _ _ _ _ _ us hl => match us, hl with | [_, _], _ => rfl,
    t_BASE := t_BASE, g_BASE := PySem.W.mg_of X G n_BASE,
    t_PIECE := t_PIECE, g_PIECE := PySem.W.mg_of X G n_PIECE,
    xb_PaperError := ⟨rd_PaperError, ga_PaperError, vi_PaperError⟩,
    xo_BadText := ⟨⟨⟨nm_BadText, q_BadText, N_BadText, bs_BadText, _, sn_BadText, sub_BadText, ab_BadText, col_BadText, dd_BadText, m0_BadText, m1_BadText, m2_BadText, m3_BadText, m5_BadText, xL_BadText, by first | (unfold PySem.HandSPX.refsVE; decide +kernel) | rfl⟩, sa_BadText, eC_BadText, tC_BadText, kC_BadText⟩, ⟨hg_BadText, hk_BadText, eC_BadText, hd_BadText, ha_BadText, x_hn, x_ht, hm_BadText⟩, no_BadText, a_BadText_init, i_BadText_init⟩,
    e_BadText_BadText := e_BadText_BadText,
    e_BadText_PaperError := e_BadText_PaperError,
    k_BadText_BadText := k_BadText_BadText,
    k_BadText_ValueError := k_BadText_ValueError,
    i_1 := i_1,
    i_2 := i_2,
    m_gcd := PySem.W.mg_of X G mgcd }
  exact ⟨PySem.W.fnOf "law" "law" (defArgs s_law) (defBody s_law) (defScope s_law) .none kV_law dc_law pm_law an_law cd_law ct_law, fun s v => .of_eq rfl, fun base _ _ => ok_law T⟩
end L

open PySem PySem.W PyProof.Rows
set_option maxHeartbeats 0 in
theorem PySem.Challenge.cw_papersat_k03_ratio_words_holds : PySem.Challenge.rw_papersat_k03_ratio_words.Holds := by
  w_on; o_law; k_head; (case hw => w_witness2)
  k_fill
  refine L2.walk_of (l := PySem.Challenge.rw_papersat_k03_ratio_words) (n := 63) (k := 7) (x := "_law_script") (CX := fun _ => L2.CX0) (sp := fun w => L.spLaw _) rfl (by decide) rfl ⟨rfl, by decide, by decide⟩ (fun w h Y => PySem.W.kIn_of Y) ?F (fun _ _ a ns hl _ hS => ⟨a, ns, rfl, hS, hl, fun _ => rfl⟩) (fun _ _ _ _ _ h => h)
  case F =>
    intro w mg fa h KX G hmg
    refine' L.all_mk KX G hmg ?a_whole_text ?l_whole_text ?c_whole_text ?k_whole_text ?a_read_whole ?l_read_whole ?c_read_whole ?k_read_whole ?a_is_whole_word ?l_is_whole_word ?c_is_whole_word ?k_is_whole_word ?a_is_ratio_word ?l_is_ratio_word ?c_is_ratio_word ?k_is_ratio_word ?a_is_positive_word ?l_is_positive_word ?c_is_positive_word ?k_is_positive_word ?a_ratio ?l_ratio ?c_ratio ?k_ratio ?t_ratio ?a_ratio_text ?l_ratio_text ?c_ratio_text ?k_ratio_text ?a_parse_ratio ?l_parse_ratio ?c_parse_ratio ?k_parse_ratio ?a_pool ?l_pool ?c_pool ?k_pool ?a_take ?l_take ?c_take ?k_take ?a_whole ?l_whole ?c_whole ?k_whole ?a_sized ?l_sized ?c_sized ?k_sized ?a_lowest ?l_lowest ?c_lowest ?k_lowest ?a_digits ?l_digits ?c_digits ?k_digits ?a_word ?l_word ?c_word ?k_word ?a_signs ?l_signs ?c_signs ?k_signs ?a_sign ?l_sign ?c_sign ?k_sign ?a_spoilt ?l_spoilt ?c_spoilt ?k_spoilt ?a_odd ?l_odd ?c_odd ?k_odd ?a_free ?l_free ?c_free ?k_free ?a_text ?l_text ?c_text ?k_text ?a_step ?l_step ?c_step ?k_step ?a_read ?l_read ?c_read ?k_read ?a_is ?l_is ?c_is ?k_is ?a_refused ?l_refused ?c_refused ?k_refused ?a_refused_by_base ?l_refused_by_base ?c_refused_by_base ?k_refused_by_base ?a_asked ?l_asked ?c_asked ?k_asked ?a_written ?l_written ?c_written ?k_written ?a_law ?l_law ?c_law ?k_law ?m_len ?m_int ?m_abs ?m_min ?m_max ?m_isinstance ?m_range ?m_bool ?m_str ?m_tuple ?m_reversed ?m_ValueError ?m_divmod ?n_BadText ?n_PaperError ?n_BadLiteral ?n_BadModel ?n_BadName ?n_BadNode ?n_BadRatio ?n_BadSort ?n_NameTaken ?n_NoAnswer ?n_NoLevel ?n_UnknownName ?a_BadText_init ?i_BadText_init ?l_BadText_init ?c_BadText_init ?k_BadText_init ?n_BASE ?n_PIECE ?rd_PaperError ?ga_PaperError ?vi_PaperError ?xL_BadText ?sa_BadText ?eC_BadText ?tC_BadText ?kC_BadText ?hg_BadText ?hk_BadText ?hd_BadText ?ha_BadText ?hm_BadText ?no_BadText ?x_hn ?x_ht ?e_BadText_BadText ?e_BadText_PaperError ?k_BadText_BadText ?k_BadText_ValueError ?i_1 ?i_2 ?mgcd
    (case a_whole_text => first | k_is | k_exc | rfl | kernel_rfl); (case l_whole_text => first | k_is | k_exc | rfl | kernel_rfl); (case c_whole_text => first | k_is | k_exc | rfl | kernel_rfl); (case k_whole_text => first | k_is | k_exc | rfl | kernel_rfl); (case a_read_whole => first | k_is | k_exc | rfl | kernel_rfl); (case l_read_whole => first | k_is | k_exc | rfl | kernel_rfl); (case c_read_whole => first | k_is | k_exc | rfl | kernel_rfl); (case k_read_whole => first | k_is | k_exc | rfl | kernel_rfl); (case a_is_whole_word => first | k_is | k_exc | rfl | kernel_rfl); (case l_is_whole_word => first | k_is | k_exc | rfl | kernel_rfl); (case c_is_whole_word => first | k_is | k_exc | rfl | kernel_rfl); (case k_is_whole_word => first | k_is | k_exc | rfl | kernel_rfl); (case a_is_ratio_word => first | k_is | k_exc | rfl | kernel_rfl); (case l_is_ratio_word => first | k_is | k_exc | rfl | kernel_rfl); (case c_is_ratio_word => first | k_is | k_exc | rfl | kernel_rfl); (case k_is_ratio_word => first | k_is | k_exc | rfl | kernel_rfl); (case a_is_positive_word => first | k_is | k_exc | rfl | kernel_rfl); (case l_is_positive_word => first | k_is | k_exc | rfl | kernel_rfl); (case c_is_positive_word => first | k_is | k_exc | rfl | kernel_rfl); (case k_is_positive_word => first | k_is | k_exc | rfl | kernel_rfl); (case a_ratio => first | k_is | k_exc | rfl | kernel_rfl); (case l_ratio => first | k_is | k_exc | rfl | kernel_rfl); (case c_ratio => first | k_is | k_exc | rfl | kernel_rfl); (case k_ratio => first | k_is | k_exc | rfl | kernel_rfl); (case t_ratio => first | k_is | k_exc | rfl | kernel_rfl); (case a_ratio_text => first | k_is | k_exc | rfl | kernel_rfl); (case l_ratio_text => first | k_is | k_exc | rfl | kernel_rfl); (case c_ratio_text => first | k_is | k_exc | rfl | kernel_rfl); (case k_ratio_text => first | k_is | k_exc | rfl | kernel_rfl); (case a_parse_ratio => first | k_is | k_exc | rfl | kernel_rfl); (case l_parse_ratio => first | k_is | k_exc | rfl | kernel_rfl); (case c_parse_ratio => first | k_is | k_exc | rfl | kernel_rfl); (case k_parse_ratio => first | k_is | k_exc | rfl | kernel_rfl); (case a_pool => first | k_is | k_exc | rfl | kernel_rfl); (case l_pool => first | k_is | k_exc | rfl | kernel_rfl); (case c_pool => first | k_is | k_exc | rfl | kernel_rfl); (case k_pool => first | k_is | k_exc | rfl | kernel_rfl); (case a_take => first | k_is | k_exc | rfl | kernel_rfl); (case l_take => first | k_is | k_exc | rfl | kernel_rfl); (case c_take => first | k_is | k_exc | rfl | kernel_rfl); (case k_take => first | k_is | k_exc | rfl | kernel_rfl); (case a_whole => first | k_is | k_exc | rfl | kernel_rfl); (case l_whole => first | k_is | k_exc | rfl | kernel_rfl); (case c_whole => first | k_is | k_exc | rfl | kernel_rfl); (case k_whole => first | k_is | k_exc | rfl | kernel_rfl); (case a_sized => first | k_is | k_exc | rfl | kernel_rfl); (case l_sized => first | k_is | k_exc | rfl | kernel_rfl); (case c_sized => first | k_is | k_exc | rfl | kernel_rfl); (case k_sized => first | k_is | k_exc | rfl | kernel_rfl); (case a_lowest => first | k_is | k_exc | rfl | kernel_rfl); (case l_lowest => first | k_is | k_exc | rfl | kernel_rfl); (case c_lowest => first | k_is | k_exc | rfl | kernel_rfl); (case k_lowest => first | k_is | k_exc | rfl | kernel_rfl); (case a_digits => first | k_is | k_exc | rfl | kernel_rfl); (case l_digits => first | k_is | k_exc | rfl | kernel_rfl); (case c_digits => first | k_is | k_exc | rfl | kernel_rfl); (case k_digits => first | k_is | k_exc | rfl | kernel_rfl); (case a_word => first | k_is | k_exc | rfl | kernel_rfl); (case l_word => first | k_is | k_exc | rfl | kernel_rfl); (case c_word => first | k_is | k_exc | rfl | kernel_rfl); (case k_word => first | k_is | k_exc | rfl | kernel_rfl); (case a_signs => first | k_is | k_exc | rfl | kernel_rfl); (case l_signs => first | k_is | k_exc | rfl | kernel_rfl); (case c_signs => first | k_is | k_exc | rfl | kernel_rfl); (case k_signs => first | k_is | k_exc | rfl | kernel_rfl); (case a_sign => first | k_is | k_exc | rfl | kernel_rfl); (case l_sign => first | k_is | k_exc | rfl | kernel_rfl); (case c_sign => first | k_is | k_exc | rfl | kernel_rfl); (case k_sign => first | k_is | k_exc | rfl | kernel_rfl); (case a_spoilt => first | k_is | k_exc | rfl | kernel_rfl); (case l_spoilt => first | k_is | k_exc | rfl | kernel_rfl); (case c_spoilt => first | k_is | k_exc | rfl | kernel_rfl); (case k_spoilt => first | k_is | k_exc | rfl | kernel_rfl); (case a_odd => first | k_is | k_exc | rfl | kernel_rfl); (case l_odd => first | k_is | k_exc | rfl | kernel_rfl); (case c_odd => first | k_is | k_exc | rfl | kernel_rfl); (case k_odd => first | k_is | k_exc | rfl | kernel_rfl); (case a_free => first | k_is | k_exc | rfl | kernel_rfl); (case l_free => first | k_is | k_exc | rfl | kernel_rfl); (case c_free => first | k_is | k_exc | rfl | kernel_rfl); (case k_free => first | k_is | k_exc | rfl | kernel_rfl); (case a_text => first | k_is | k_exc | rfl | kernel_rfl); (case l_text => first | k_is | k_exc | rfl | kernel_rfl); (case c_text => first | k_is | k_exc | rfl | kernel_rfl); (case k_text => first | k_is | k_exc | rfl | kernel_rfl); (case a_step => first | k_is | k_exc | rfl | kernel_rfl); (case l_step => first | k_is | k_exc | rfl | kernel_rfl); (case c_step => first | k_is | k_exc | rfl | kernel_rfl); (case k_step => first | k_is | k_exc | rfl | kernel_rfl); (case a_read => first | k_is | k_exc | rfl | kernel_rfl); (case l_read => first | k_is | k_exc | rfl | kernel_rfl); (case c_read => first | k_is | k_exc | rfl | kernel_rfl); (case k_read => first | k_is | k_exc | rfl | kernel_rfl); (case a_is => first | k_is | k_exc | rfl | kernel_rfl); (case l_is => first | k_is | k_exc | rfl | kernel_rfl); (case c_is => first | k_is | k_exc | rfl | kernel_rfl); (case k_is => first | k_is | k_exc | rfl | kernel_rfl); (case a_refused => first | k_is | k_exc | rfl | kernel_rfl); (case l_refused => first | k_is | k_exc | rfl | kernel_rfl); (case c_refused => first | k_is | k_exc | rfl | kernel_rfl); (case k_refused => first | k_is | k_exc | rfl | kernel_rfl); (case a_refused_by_base => first | k_is | k_exc | rfl | kernel_rfl); (case l_refused_by_base => first | k_is | k_exc | rfl | kernel_rfl); (case c_refused_by_base => first | k_is | k_exc | rfl | kernel_rfl); (case k_refused_by_base => first | k_is | k_exc | rfl | kernel_rfl); (case a_asked => first | k_is | k_exc | rfl | kernel_rfl); (case l_asked => first | k_is | k_exc | rfl | kernel_rfl); (case c_asked => first | k_is | k_exc | rfl | kernel_rfl); (case k_asked => first | k_is | k_exc | rfl | kernel_rfl); (case a_written => first | k_is | k_exc | rfl | kernel_rfl); (case l_written => first | k_is | k_exc | rfl | kernel_rfl); (case c_written => first | k_is | k_exc | rfl | kernel_rfl); (case k_written => first | k_is | k_exc | rfl | kernel_rfl); (case a_law => first | k_is | k_exc | rfl | kernel_rfl); (case l_law => first | k_is | k_exc | rfl | kernel_rfl); (case c_law => first | k_is | k_exc | rfl | kernel_rfl); (case k_law => first | k_is | k_exc | rfl | kernel_rfl); (case m_len => first | k_is | k_exc | rfl | kernel_rfl); (case m_int => first | k_is | k_exc | rfl | kernel_rfl); (case m_abs => first | k_is | k_exc | rfl | kernel_rfl); (case m_min => first | k_is | k_exc | rfl | kernel_rfl); (case m_max => first | k_is | k_exc | rfl | kernel_rfl); (case m_isinstance => first | k_is | k_exc | rfl | kernel_rfl); (case m_range => first | k_is | k_exc | rfl | kernel_rfl); (case m_bool => first | k_is | k_exc | rfl | kernel_rfl); (case m_str => first | k_is | k_exc | rfl | kernel_rfl); (case m_tuple => first | k_is | k_exc | rfl | kernel_rfl); (case m_reversed => first | k_is | k_exc | rfl | kernel_rfl); (case m_ValueError => first | k_is | k_exc | rfl | kernel_rfl); (case m_divmod => first | k_is | k_exc | rfl | kernel_rfl); (case n_BadText => first | k_is | k_exc | rfl | kernel_rfl); (case n_PaperError => first | k_is | k_exc | rfl | kernel_rfl); (case n_BadLiteral => first | k_is | k_exc | rfl | kernel_rfl); (case n_BadModel => first | k_is | k_exc | rfl | kernel_rfl); (case n_BadName => first | k_is | k_exc | rfl | kernel_rfl); (case n_BadNode => first | k_is | k_exc | rfl | kernel_rfl); (case n_BadRatio => first | k_is | k_exc | rfl | kernel_rfl); (case n_BadSort => first | k_is | k_exc | rfl | kernel_rfl); (case n_NameTaken => first | k_is | k_exc | rfl | kernel_rfl); (case n_NoAnswer => first | k_is | k_exc | rfl | kernel_rfl); (case n_NoLevel => first | k_is | k_exc | rfl | kernel_rfl); (case n_UnknownName => first | k_is | k_exc | rfl | kernel_rfl); (case a_BadText_init => first | k_is | k_exc | rfl | kernel_rfl); (case i_BadText_init => first | k_is | k_exc | rfl | kernel_rfl); (case l_BadText_init => first | k_is | k_exc | rfl | kernel_rfl); (case c_BadText_init => first | k_is | k_exc | rfl | kernel_rfl); (case k_BadText_init => first | k_is | k_exc | rfl | kernel_rfl); (case n_BASE => first | k_is | k_exc | rfl | kernel_rfl); (case n_PIECE => first | k_is | k_exc | rfl | kernel_rfl); (case rd_PaperError => first | k_is | k_exc | rfl | kernel_rfl); (case ga_PaperError => first | k_is | k_exc | rfl | kernel_rfl); (case vi_PaperError => first | k_is | k_exc | rfl | kernel_rfl); (case xL_BadText => first | k_is | k_exc | rfl | kernel_rfl); (case sa_BadText => first | k_is | k_exc | rfl | kernel_rfl); (case eC_BadText => first | k_is | k_exc | rfl | kernel_rfl); (case tC_BadText => first | k_is | k_exc | rfl | kernel_rfl); (case kC_BadText => first | k_is | k_exc | rfl | kernel_rfl); (case hg_BadText => first | k_is | k_exc | rfl | kernel_rfl); (case hk_BadText => first | k_is | k_exc | rfl | kernel_rfl); (case hd_BadText => first | k_is | k_exc | rfl | kernel_rfl); (case ha_BadText => first | k_is | k_exc | rfl | kernel_rfl); (case hm_BadText => first | k_is | k_exc | rfl | kernel_rfl); (case no_BadText => first | k_is | k_exc | rfl | kernel_rfl); (case x_hn => first | k_is | k_exc | rfl | kernel_rfl); (case x_ht => first | k_is | k_exc | rfl | kernel_rfl); (case e_BadText_BadText => first | k_is | k_exc | rfl | kernel_rfl); (case e_BadText_PaperError => first | k_is | k_exc | rfl | kernel_rfl); (case k_BadText_BadText => first | k_is | k_exc | rfl | kernel_rfl); (case k_BadText_ValueError => first | k_is | k_exc | rfl | kernel_rfl); (case i_1 => first | k_is | k_exc | rfl | kernel_rfl); (case i_2 => first | k_is | k_exc | rfl | kernel_rfl); (case mgcd => first | k_is | k_exc | rfl | kernel_rfl)
#print axioms PySem.Challenge.cw_papersat_k03_ratio_words_holds
