import PyProof.Rows.All
import Wide.All
import OpenK.AllK
import Wide.FinOn
import HandS.ForMost
import HandS.ForExc
import HandS.IsInst
import HandS.Gcd
import HandS.Wide
import HandS.WideBits
import HandS.Defaults
import HandS.ExcIs
import HandS.Small
import HandS.Flow
import HandS.Evl
import HandS.DictEq
import HandS.Walk
import HandS.TupLe
import HandS.More
import HandS.ForDict
import HandS.TupAny
import KE.KDictPairs
import KE.KEqDict
import HandS.OwnIter
import HandS.IterNext
import HandS.DictComp
import HandS.RevRange
import HandS.ExcInit
import HandS.ExcField
import HandS.FStr
import HandS.StrMore
import HandS.Codes
import KE.KExcIs
import HandS.ExcCtx
import HandS.Hot
import HandS.HotCalls
import HandS.TryMany
import HandS.ExcOwn
import HandS.Star
import HandS.SetFor
import HandS.Rev
import KE.GoesMore
import PySem.Challenge.RW_papersat_k21_trail_keeps_levels
set_option Elab.async false
set_option linter.all false
set_option maxRecDepth 100000
set_option maxHeartbeats 4000000
/-! ### short words for readings -/
namespace Z
open PySem PySem.Spec PyProof.Rows L2
variable {σ σ' : L2.St} {H : Hp} {Q : VK} {D : Ends} {ta tb te : TE} {t u : TS} {tt tu : TT} {g : TG} {v x y : V} {i : Nat} {K : PySem.W.Frag} {p : Addr}
theorem w_var (h : σ[i]? = some (some v)) (q : Q v H) : tVar i σ H Q := ⟨v, h, q⟩
theorem w_c (q : Q v H) : tC v σ H Q := q
theorem w_op {r : R2} (h : ta σ H fun x H1 => tb σ H1 fun y H2 => r x y H2 Q) : tOp r ta tb σ H Q := h
theorem w_un {r : V → Hp → VK → Prop} (h : ta σ H fun x H1 => r x H1 Q) : tUn r ta σ H Q := h
theorem w_rI0 {f : Int → Int → V} {a b : Int} (q : Q (f a b) H) : rI0 f (.int a) (.int b) H Q := ⟨a, b, rfl, rfl, q⟩
theorem w_rI {C : Int → Int → Prop} {f : Int → Int → V} {a b : Int} (c : C a b) (q : Q (f a b) H) : rI C f (.int a) (.int b) H Q := ⟨a, b, rfl, rfl, c, q⟩
theorem w_rU {f : Int → V} {a : Int} (q : Q (f a) H) : rU f (.int a) H Q := ⟨a, rfl, q⟩
theorem w_rEq (c : scal x y = true) (q : Q (.bl (decide (x = y))) H) : rEq x y H Q := ⟨c, q⟩
theorem w_rNe (c : scal x y = true) (q : Q (.bl (!decide (x = y))) H) : rNe x y H Q := ⟨c, q⟩
theorem w_rEqI {a b : Int} (q : Q (.bl (decide (a = b))) H) : rEq (.int a) (.int b) H Q := ⟨rfl, by
  rw [show decide (V.int a = V.int b) = decide (a = b) by simp]; exact q⟩
theorem w_rNeI {a b : Int} (q : Q (.bl (!decide (a = b))) H) : rNe (.int a) (.int b) H Q := ⟨rfl, by
  rw [show decide (V.int a = V.int b) = decide (a = b) by simp]; exact q⟩
theorem w_ixL {xs : List V} {k : Int} (h : SqL K H p xs) (a : atI xs k = some v) (q : Q v H) : rIxL K (.ref p) (.int k) H Q := ⟨p, xs, k, v, rfl, rfl, h, a, q⟩
theorem w_ixT {xs : List V} {k : Int} (h : SqT K H p xs) (a : atI xs k = some v) (q : Q v H) : rIxT K (.ref p) (.int k) H Q := ⟨p, xs, k, v, rfl, rfl, h, a, q⟩
theorem w_start (e : σ = σ') (h : t D σ' H) : t D σ H := by rw [e]; exact h
theorem w_seq (h : t { D with nx := u D } σ H) : tSeq t u D σ H := h
theorem w_next (h : D.nx σ H) : tNext D σ H := h
theorem w_break (h : D.bk σ H) : tBreak D σ H := h
theorem w_cont (h : D.ct σ H) : tCont D σ H := h
theorem w_drop (h : te σ H fun _ H1 => D.nx σ H1) : tDrop te D σ H := h
theorem w_ret (h : te σ H D.rt) : tRet te D σ H := h
theorem w_asg (h : te σ H fun x H1 => g x σ H1 D.nx) : tAsg te g D σ H := h
theorem w_gname {R : L2.St → Hp → Prop} (e : σ.set i (some v) = σ') (h : R σ' H) : gName i v σ H R := by rw [← e] at h; exact h
theorem w_ifs (h : tt σ H fun b H1 => if b = true then t D σ H1 else u D σ H1) : tIfS tt t u D σ H := h
theorem w_test {R : Bool → Hp → Prop} (h : te σ H fun x H1 => ∃ k, x = .bl k ∧ R k H1) : tTest te σ H R := h
theorem w_B {R : Bool → Hp → Prop} (h : te σ H fun x H1 => ∃ k, x = .bl k ∧ R k H1) : tB te σ H R := h
theorem w_bl {k : Bool} {R : Bool → Prop} (h : R k) : ∃ c, V.bl k = V.bl c ∧ R c := ⟨k, rfl, h⟩
theorem w_tand {R : Bool → Hp → Prop} (h : tt σ H fun c H1 => if c = true then tu σ H1 R else R false H1) : tAnd tt tu σ H R := h
theorem w_tor {R : Bool → Hp → Prop} (h : tt σ H fun c H1 => if c = true then R true H1 else tu σ H1 R) : tOr tt tu σ H R := h
theorem w_tnot {R : Bool → Hp → Prop} (h : tt σ H fun c H1 => R (!c) H1) : tNot tt σ H R := h
theorem w_andV (h : ta σ H fun x H1 => ∃ c, x = .bl c ∧ if c = true then tb σ H1 Q else Q (.bl false) H1) : tAndV ta tb σ H Q := h
theorem w_orV (h : ta σ H fun x H1 => ∃ c, x = .bl c ∧ if c = true then Q (.bl true) H1 else tb σ H1 Q) : tOrV ta tb σ H Q := h
theorem w_notV (h : ta σ H fun x H1 => ∃ c, x = .bl c ∧ Q (.bl (!c)) H1) : tNotV ta σ H Q := h
theorem w_ifV (h : tt σ H fun c H1 => if c = true then ta σ H1 Q else tb σ H1 Q) : tIf tt ta tb σ H Q := h
theorem w_nil {R : List V → Hp → Prop} (h : R [] H) : tNil σ H R := h
theorem w_cons {tr : TA} {R : List V → Hp → Prop} (h : ta σ H fun x H1 => tr σ H1 fun xs H2 => R (x :: xs) H2) : tCons ta tr σ H R := h
theorem w_cb {r : List V → Hp → VK → Prop} {tl : TA} (h : tl σ H fun vs H1 => r vs H1 Q) : tCB r tl σ H Q := h
theorem w_call {sp : Sp} {dvs : List V} {E : XK} {tl : TA} (h : tl σ H fun vs H1 => sp (vs ++ dvs) H1 Q E) : tCall sp dvs E tl σ H Q := h
theorem w_call0 {sp : Sp} {E : XK} {tl : TA} (h : tl σ H fun vs H1 => sp vs H1 Q E) : tCall sp [] E tl σ H Q := by
  unfold tCall
  simp only [List.append_nil]
  exact h
theorem w_tup {tl : TA} (h : tl σ H fun xs H1 => xs.length ≤ sizeLine ∧ ∀ p, H1 p = none → Q (.ref p) (upd H1 p (.tup xs))) : tTup tl σ H Q := h
theorem w_lst {tl : TA} (h : tl σ H fun xs H1 => xs.length ≤ sizeLine ∧ ∀ p, H1 p = none → Q (.ref p) (upd H1 p (.lst xs))) : tLst tl σ H Q := h
def par2 (a b : Nat) (vs : List V) (σ : L2.St) (H : Hp) (R : L2.St → Hp → Prop) : Prop := ∃ v w, vs = [v, w] ∧ R ((σ.set a (some v)).set b (some w)) H
theorem w_par {a b : Nat} {tl : TA} (h : tl σ H fun vs H1 => par2 a b vs σ H1 D.nx) : tPar a b tl D σ H := h
theorem w_par2 {a b : Nat} {v w : V} {R : L2.St → Hp → Prop} (e : (σ.set a (some v)).set b (some w) = σ') (h : R σ' H) : par2 a b [v, w] σ H R := ⟨v, w, rfl, by rw [e]; exact h⟩
theorem w_gtup {n : Nat} {gs : TGs} {xs : List V} {R : L2.St → Hp → Prop} (h : SqT K H p xs) (l : xs.length = n) (q : gs xs σ H R) : gTup K n gs (.ref p) σ H R := ⟨p, xs, rfl, h, l, q⟩
theorem w_gcons {gs : TGs} {vs : List V} {R : L2.St → Hp → Prop} (h : g v σ H fun σ' H' => gs vs σ' H' R) : gCons g gs (v :: vs) σ H R := ⟨v, vs, rfl, h⟩
theorem w_gnil {R : L2.St → Hp → Prop} (h : R σ H) : gNil [] σ H R := ⟨rfl, h⟩
theorem w_gsub {to ti : TE} {ts : TSet} {R : L2.St → Hp → Prop} (h : to σ H fun o H1 => ti σ H1 fun i H2 => ts o i v H2 fun H3 => R σ H3) : gSub to ti ts v σ H R := h
theorem w_setL {xs : List V} {k : Int} {j : Nat} {R : Hp → Prop} (h : H p = some (.lst xs)) (e : ixN xs.length k = some j) (q : R (upd H p (.lst (xs.set j v)))) : rSetL (.ref p) (.int k) v H R := ⟨p, xs, k, j, rfl, rfl, h, e, q⟩
theorem w_rng1 {tl : TA} {R : It → Hp → Prop} (h : tl σ H fun vs H1 => ∃ j : Int, vs = [.int j] ∧ -(2 ^ 62) ≤ j ∧ j < 2 ^ 62 ∧ R (Itr 0 j.toNat) H1) : iRng1 tl σ H R := h
theorem w_rng1' {j : Int} {R : It → Prop} (h1 : -(2 ^ 62) ≤ j) (h2 : j < 2 ^ 62) (h : R (Itr 0 j.toNat)) : ∃ k : Int, [V.int j] = [.int k] ∧ -(2 ^ 62) ≤ k ∧ k < 2 ^ 62 ∧ R (Itr 0 k.toNat) := ⟨j, rfl, h1, h2, h⟩
theorem w_for {wi : TI} {tb' : TS} (h : wi σ H fun J H1 => ∃ W : Nat → Nat → L2.St → Hp → Prop, (∃ m, W 0 m σ H1) ∧ ∀ i m σ H, W i m σ H →
  (J.stop i H ∧ D.nx σ H) ∨ (J.go i H ∧ ∃ N : L2.St → Hp → Prop, (∀ σ' H', N σ' H' → ∃ m', m' < m ∧ W (i + 1) m' σ' H') ∧ ∀ x H', J.yld i H x H' → g x σ H' fun σ2 H2 => tb' { D with nx := N, ct := N, bk := D.nx } σ2 H2)) : tFor wi g tb' D σ H := h
theorem w_bits (h : te σ H fun x H1 => ∃ i, x = .int i ∧ Q (.int (Builtin.Int.intBits i : Nat)) H1) : tBits te σ H Q := h
theorem w_ex1 {a : Int} {R : Int → Prop} (h : R a) : ∃ i, V.int a = V.int i ∧ R i := ⟨a, rfl, h⟩
theorem w_exl {xs : List V} {R : List V → Prop} (h : R xs) : ∃ ys, xs = ys ∧ R ys := ⟨xs, rfl, h⟩
theorem sz4 {n : Nat} (h : n ≤ 1000) : n ≤ sizeLine := Nat.le_trans h (by decide)
theorem w_ixH {xs : List V} {k : Int} (h : H p = some (.lst xs)) (a : atI xs k = some v) (q : Q v H) : rIxL K (.ref p) (.int k) H Q := ⟨p, xs, k, v, rfl, rfl, .inl (.inl h), a, q⟩
theorem w_ixTH {xs : List V} {k : Int} (h : H p = some (.tup xs)) (a : atI xs k = some v) (q : Q v H) : rIxT K (.ref p) (.int k) H Q := ⟨p, xs, k, v, rfl, rfl, .inl (.inl h), a, q⟩
theorem w_gtupH {n : Nat} {gs : TGs} {xs : List V} {R : L2.St → Hp → Prop} (h : H p = some (.tup xs)) (l : xs.length = n) (q : gs xs σ H R) : gTup K n gs (.ref p) σ H R := ⟨p, xs, rfl, .inl (.inl h), l, q⟩
theorem w_setLu {xs ys : List V} {k : Int} {j : Nat} {R : Hp → Prop} {H0 : Hp} (e : ixN xs.length k = some j) (e2 : xs.set j v = ys) (q : R (upd H0 p (.lst ys))) : rSetL (.ref p) (.int k) v (upd H0 p (.lst xs)) R := ⟨p, xs, k, j, rfl, rfl, upd_same, e, by rw [upd_upd, e2]; exact q⟩
theorem w_setLh {xs ys : List V} {k : Int} {j : Nat} {R : Hp → Prop} (h : H p = some (.lst xs)) (e : ixN xs.length k = some j) (e2 : xs.set j v = ys) (q : R (upd H p (.lst ys))) : rSetL (.ref p) (.int k) v H R := ⟨p, xs, k, j, rfl, rfl, h, e, by rw [e2]; exact q⟩
theorem w_lenL {xs : List V} {R : V → Prop} (h : SqL K H p xs) (q : R (.int xs.length)) : ∃ a ys, [V.ref p] = [.ref a] ∧ (SqL K H a ys ∨ SqT K H a ys) ∧ R (.int ys.length) := ⟨p, xs, rfl, .inl h, q⟩
theorem w_lenT {xs : List V} {R : V → Prop} (h : SqT K H p xs) (q : R (.int xs.length)) : ∃ a ys, [V.ref p] = [.ref a] ∧ (SqL K H a ys ∨ SqT K H a ys) ∧ R (.int ys.length) := ⟨p, xs, rfl, .inr h, q⟩
theorem upd_skip {a b : Addr} {o : HO} {u : Option HO} (h : a ≠ b) (e : H a = u) : (upd H b o) a = u := by rw [upd_ne h]; exact e
section
variable {c A B : Prop} [Decidable c]
theorem w_ite (h1 : c → A) (h2 : ¬ c → B) : if decide c = true then A else B := by
  by_cases h : c
  · rw [if_pos (decide_eq_true h)]; exact h1 h
  · rw [if_neg (fun z => h (of_decide_eq_true z))]; exact h2 h
theorem w_iteN (h1 : ¬ c → A) (h2 : c → B) : if (!decide c) = true then A else B := by
  by_cases h : c
  · rw [decide_eq_true h]; exact h2 h
  · rw [decide_eq_false h]; exact h1 h
theorem w_iteT (h : c) (q : A) : if decide c = true then A else B := by rw [if_pos (decide_eq_true h)]; exact q
theorem w_iteF (h : ¬ c) (q : B) : if decide c = true then A else B := by rw [if_neg (fun z => h (of_decide_eq_true z))]; exact q
theorem w_iteNT (h : ¬ c) (q : A) : if (!decide c) = true then A else B := by rw [decide_eq_false h]; exact q
theorem w_iteNF (h : c) (q : B) : if (!decide c) = true then A else B := by rw [decide_eq_true h]; exact q
theorem w_iteb {k : Bool} (h1 : k = true → A) (h2 : k = false → B) : if k = true then A else B := by
  cases k with
  | true => exact h1 rfl
  | false => exact h2 rfl
theorem w_ibT (q : A) : if true = true then A else B := q
theorem w_ibF (q : B) : if false = true then A else B := q
theorem w_ibNT (q : A) : if (!false) = true then A else B := q
theorem w_ibNF (q : B) : if (!true) = true then A else B := q
end
theorem upd_fresh {a b : Addr} {o : HO} (h : H a = none) (h' : H b = some o) {u : HO} (hu : upd H b u a = none) : True := trivial
theorem fresh_of {a b : Addr} {u : HO} (h : (upd H b u) a = none) : a ≠ b ∧ H a = none := by
  by_cases e : a = b
  · subst e; rw [upd_same] at h; cases h
  · rw [upd_ne e] at h; exact ⟨e, h⟩
theorem pick {ns : List Int} {k : Int} (h0 : 0 ≤ k) (h : k < ns.length) : ∃ z, atI (ns.map V.int) k = some (.int z) ∧ z ∈ ns := by
  obtain ⟨j, rfl⟩ := Int.eq_ofNat_of_zero_le h0
  have hj : j < ns.length := by omega
  refine ⟨ns[j], atI_nat (j := j) ?_, List.getElem_mem hj⟩
  rw [List.getElem?_map, List.getElem?_eq_getElem hj]
  rfl
theorem w_isi {c x : V} {ty u : Value} {b : Bool} (hc : ClsV c u) (ht : TyX K H x ty) (e : PySem.W.kitOne K ty u = some b) (q : Q (.bl b) H) : rIsi K [x, c] H Q := ⟨x, c, ty, u, b, rfl, hc, ht, e, q⟩
theorem w_isi_ii {a : Int} (q : Q (.bl true) H) : rIsi K [.int a, .ty "int"] H Q := w_isi (.ty _) (.base (.int _)) (kit_ty (by decide +kernel)) q
theorem w_isi_ib {a : Int} (q : Q (.bl false) H) : rIsi K [.int a, .ty "bool"] H Q := w_isi (.ty _) (.base (.int _)) (kit_ty (by decide +kernel)) q
theorem w_isi_bb {a : Bool} (q : Q (.bl true) H) : rIsi K [.bl a, .ty "bool"] H Q := w_isi (.ty _) (.base (.bl _)) (kit_ty (by decide +kernel)) q
theorem w_isi_bi {a : Bool} (q : Q (.bl true) H) : rIsi K [.bl a, .ty "int"] H Q := w_isi (.ty _) (.base (.bl _)) (kit_ty (by decide +kernel)) q
theorem w_isi_ss {a : Str} (q : Q (.bl true) H) : rIsi K [.str a, .ty "str"] H Q := w_isi (.ty _) (.base (.str _)) (kit_ty (by decide +kernel)) q
theorem w_isi_is {a : Int} (q : Q (.bl false) H) : rIsi K [.int a, .ty "str"] H Q := w_isi (.ty _) (.base (.int _)) (kit_ty (by decide +kernel)) q
theorem w_isi_tt {xs : List V} (h : H p = some (.tup xs)) (q : Q (.bl true) H) : rIsi K [.ref p, .ty "tuple"] H Q := w_isi (.ty _) (.base (.tup h)) (kit_ty (by decide +kernel)) q
theorem w_isi_tl {xs : List V} (h : H p = some (.tup xs)) (q : Q (.bl false) H) : rIsi K [.ref p, .ty "list"] H Q := w_isi (.ty _) (.base (.tup h)) (kit_ty (by decide +kernel)) q
theorem w_isi_ll {xs : List V} (h : H p = some (.lst xs)) (q : Q (.bl true) H) : rIsi K [.ref p, .ty "list"] H Q := w_isi (.ty _) (.base (.lst h)) (kit_ty (by decide +kernel)) q
theorem w_isi_lt {xs : List V} (h : H p = some (.lst xs)) (q : Q (.bl false) H) : rIsi K [.ref p, .ty "tuple"] H Q := w_isi (.ty _) (.base (.lst h)) (kit_ty (by decide +kernel)) q
theorem w_isi_ti {xs : List V} (h : H p = some (.tup xs)) (q : Q (.bl false) H) : rIsi K [.ref p, .ty "int"] H Q := w_isi (.ty _) (.base (.tup h)) (kit_ty (by decide +kernel)) q
theorem w_isi_tb {xs : List V} (h : H p = some (.tup xs)) (q : Q (.bl false) H) : rIsi K [.ref p, .ty "bool"] H Q := w_isi (.ty _) (.base (.tup h)) (kit_ty (by decide +kernel)) q
theorem w_isi_ts {xs : List V} (h : H p = some (.tup xs)) (q : Q (.bl false) H) : rIsi K [.ref p, .ty "str"] H Q := w_isi (.ty _) (.base (.tup h)) (kit_ty (by decide +kernel)) q
theorem w_isi_li {xs : List V} (h : H p = some (.lst xs)) (q : Q (.bl false) H) : rIsi K [.ref p, .ty "int"] H Q := w_isi (.ty _) (.base (.lst h)) (kit_ty (by decide +kernel)) q
theorem w_isi_lb {xs : List V} (h : H p = some (.lst xs)) (q : Q (.bl false) H) : rIsi K [.ref p, .ty "bool"] H Q := w_isi (.ty _) (.base (.lst h)) (kit_ty (by decide +kernel)) q
theorem w_isi_ls {xs : List V} (h : H p = some (.lst xs)) (q : Q (.bl false) H) : rIsi K [.ref p, .ty "str"] H Q := w_isi (.ty _) (.base (.lst h)) (kit_ty (by decide +kernel)) q
theorem w_gcd {a b : Int} (q : Q (.int (Nat.gcd a.natAbs b.natAbs : Nat)) H) : rGcd [.int a, .int b] H Q := ⟨a, b, rfl, q⟩
theorem w_callN {n m : Nat} {sp : Sp} {gV : List V → List V → List V} {E : XK} {t1 t2 : TA} (h : t1 σ H fun vs H1 => t2 σ H1 fun zs H2 => vs.length = n ∧ zs.length = m ∧ sp (gV vs zs) H2 Q E) : tCallN n m sp gV E t1 t2 σ H Q := h
theorem w_callS {sp : Sp} {E : L2.St → XK} {t1 : TA} (h : t1 σ H fun vs H1 => sp vs H1 Q (E σ)) : tCallS sp E t1 σ H Q := h
theorem same_of {H H' : Hp} {p : Addr} {o : HO} (s : Same H H') (n : H' p = none) : Same H (upd H' p o) := fun b x e => by
  rw [upd_ne (ne_of_none (s b x e) n)]
  exact s b x e
theorem same_mut {H H' : Hp} {p : Addr} {o : HO} (s : Same H H') (n : H p = none) : Same H (upd H' p o) := fun b x e => by
  rw [upd_ne (ne_of_none e n)]
  exact s b x e
theorem w_dnew (h : ∀ d, H d = none → Q (.ref d) (upd H d (.dK []))) : tDNewK σ H Q := h
theorem w_dput {td ty tv : TE} (h : tv σ H fun v H1 => td σ H1 fun x H2 => ty σ H2 fun y H3 => ∃ a H4, x = .ref a ∧ DPut H3 a y v H4 ∧ D.nx σ H4) : sDPut td ty tv D σ H := h
theorem w_din {ty td : TE} (h : ty σ H fun y H1 => td σ H1 fun x H2 => ∃ a o, x = .ref a ∧ DGet H2 a y o ∧ Q (.bl o.isSome) H2) : tDIn ty td σ H Q := h
theorem w_dnin {ty td : TE} (h : ty σ H fun y H1 => td σ H1 fun x H2 => ∃ a o, x = .ref a ∧ DGet H2 a y o ∧ Q (.bl (!o.isSome)) H2) : tDNotIn ty td σ H Q := h
theorem w_iTup {tl : TE} {R : It → Hp → Prop} (h : tl σ H fun x H1 => ∃ a, x = .ref a ∧ (∃ xs, SqT K H1 a xs) ∧ R (Itt K a) H1) : iTup K tl σ H R := h
theorem w_iList {tl : TE} {R : It → Hp → Prop} (h : tl σ H fun x H1 => ∃ a, x = .ref a ∧ (∃ xs, SqL K H1 a xs) ∧ R (Itl K a) H1) : iList K tl σ H R := h
theorem w_lc {wi : TI} {ivs : List Nat} (h : wi σ H fun J H1 => ∀ Dl, H1 Dl = none → ∃ W : Nat → Nat → Hp → Prop, (∃ m, W 0 m (upd H1 Dl (.lst []))) ∧ ∀ i m H, W i m H →
  (J.stop i H ∧ Q (.ref Dl) H) ∨ (J.go i H ∧ ∃ Nx : Hp → Prop, (∀ H', Nx H' → ∃ m', m' < m ∧ W (i + 1) m' H') ∧ ∀ x H', J.yld i H x H' → g x (wipe σ ivs) H' fun σ2 H2 => wipe σ2 ivs = wipe σ ivs ∧ tt σ2 H2 fun b H3 =>
    if b = true then te σ2 H3 fun y H4 => ∃ acc, H4 Dl = some (.lst acc) ∧ acc.length < sizeLine ∧ Nx (upd H4 Dl (.lst (acc ++ [y]))) else Nx H3)) : tLc wi g tt te ivs σ H Q := h
theorem w_yes {R : Bool → Hp → Prop} (h : R true H) : tYes σ H R := h
theorem w_opin {neg : Bool} {xs : List V} (hs : SqL K H p xs ∨ SqT K H p xs) (hx : flatV x = true) (ha : xs.all flatV = true) (q : Q (.bl (if neg then !inV x xs else inV x xs)) H) : rIn K neg x (.ref p) H Q := ⟨p, xs, rfl, hs, hx, ha, q⟩
theorem w_isN (q : Q (.bl (decide (x = .non))) H) : (V.non = V.non ∧ Q (.bl (decide (x = .non))) H) := ⟨rfl, q⟩
theorem w_bm {T : String} {r : V → List V → Hp → VK → Prop} {to : TE} {tl : TA} (h : to σ H fun x H1 => tyV K T x H1 ∧ tl σ H1 fun xs H2 => r x xs H2 Q) : tBM K T r to tl σ H Q := h
theorem w_tyL {xs : List V} {R : Prop} (h : H p = some (.lst xs)) (q : R) : tyV K "list" (.ref p) H ∧ R := ⟨Or.inl ⟨rfl, xs, .inl (.inl h)⟩, q⟩
theorem w_app {xs : List V} (h : H p = some (.lst xs)) (l : xs.length < 100000) (q : Q .non (upd H p (.lst (xs ++ [v])))) : rAppend (.ref p) [v] H Q := ⟨p, xs, v, rfl, rfl, h, Nat.lt_of_lt_of_le l (by decide), q⟩
theorem w_bm0 {T : String} {r : V → List V → Hp → VK → Prop} {to : TE} (h : to σ H fun x H1 => tyV K T x H1 ∧ r x [] H1 Q) : tBM0 K T r to σ H Q := h
theorem w_rev {xs : List V} (h : H p = some (.lst xs)) (q : Q .non (upd H p (.lst xs.reverse))) : rReverse (.ref p) [] H Q := ⟨p, xs, rfl, rfl, h, q⟩
/-- pools -/
def IsPool (o : HO) : Prop := ∃ (c k : Int) (b : Bool) (s : Int), o = .lst [.int c, .int k, .bl b, .int s]
theorem upd_of {a b : Addr} {o : HO} (h : H b = none) {u : HO} (e : H a = some u) : (upd H b o) a = some u := by rw [upd_ne (ne_of_none e h)]; exact e
end Z
local macro_rules | `(tactic| walk_at "sz") => `(tactic| first | omega | (split <;> omega) | ((repeat' split) <;> omega) | (simp only [List.length_map]; (repeat' split) <;> omega))
local macro_rules | `(tactic| walk_at "hp") => `(tactic| first
  | assumption
  | exact L2.upd_same
  | ((refine' Z.upd_of ?h1 ?h2); (case h1 => assumption); (case h2 => walk_at "hp"))
  | ((refine' Z.upd_skip ?h1 ?h2); (case h1 => first | assumption | (apply Ne.symm; assumption)); (case h2 => walk_at "hp")))
local macro_rules | `(tactic| walk_at "cond") => `(tactic| first
  | exact L2.wide_mul (a := 200) (b := 200) (by omega) (by omega) (by decide) (by decide) (by decide)
  | exact L2.wide_div (b := 200) (by omega) (by omega) (by decide) (by decide)
  | exact ⟨by omega, by omega⟩
  | omega
  | exact (show (0 : Int) < _ by omega)
  | exact Or.inl ⟨by omega, by omega⟩
  | exact Or.inr ⟨by omega, by omega⟩
  | exact ⟨by omega, by omega, by decide⟩)
local macro_rules | `(tactic| walk_at "same") => `(tactic| first
  | assumption
  | exact L2.Same.refl _
  | (refine Z.same_of ?_ (by assumption); walk_at "same")
  | (refine Z.same_mut ?_ (by assumption); walk_at "same")
  | exact L2.Same.trans (by assumption) (by walk_at "same"))
local macro_rules | `(tactic| walk_at "seq") => `(tactic| first
  | assumption
  | (refine Or.inl (Or.inl ?_); walk_at "hp")
  | ((refine' L2.Same.seq ?se ?sh); (case sh => assumption); (case se => walk_at "same"))
  | ((refine' Evl.ex_t ?se ?sh); (case sh => assumption); (case se => walk_at "same")))
local macro_rules | `(tactic| walk_at "ar") => `(tactic| first
  | omega
  | (simp only [List.length_map, List.length_cons, List.length_nil]; omega))
local macro_rules | `(tactic| walk_at "w1") => `(tactic| first
  | with_reducible refine Z.w_seq ?_
  | with_reducible refine Z.w_asg ?_
  | with_reducible refine Z.w_op ?_
  | ((with_reducible refine' Z.w_var ?wv ?_); case wv => exact rfl)
  | with_reducible refine Z.w_c ?_
  | with_reducible refine Z.w_rI0 ?_
  | ((with_reducible refine' Z.w_gname ?we ?_); case we => (simp only [List.set_cons_zero, List.set_cons_succ] <;> rfl))
  | with_reducible refine Z.w_cons ?_
  | with_reducible refine Z.w_nil ?_
  | with_reducible refine Z.w_ifs ?_
  | with_reducible refine Z.w_test ?_
  | with_reducible refine Z.w_B ?_
  | with_reducible refine Z.w_bl ?_
  | with_reducible refine Z.w_rEqI ?_
  | with_reducible refine Z.w_rNeI ?_
  | with_reducible refine Z.w_cb ?_
  | with_reducible refine Z.w_call0 ?_
  | with_reducible refine Z.w_call ?_
  | with_reducible refine Z.w_isi_ii ?_
  | with_reducible refine Z.w_isi_ib ?_
  | with_reducible refine Z.w_isi_bb ?_
  | with_reducible refine Z.w_isi_bi ?_
  | with_reducible refine Z.w_isi_ss ?_
  | with_reducible refine Z.w_isi_is ?_
  | ((with_reducible refine' Z.w_isi_tt ?wh ?_); (case wh => walk_at "hp"))
  | ((with_reducible refine' Z.w_isi_tl ?wh ?_); (case wh => walk_at "hp"))
  | ((with_reducible refine' Z.w_isi_ll ?wh ?_); (case wh => walk_at "hp"))
  | ((with_reducible refine' Z.w_isi_lt ?wh ?_); (case wh => walk_at "hp"))
  | ((with_reducible refine' Z.w_isi_ti ?wh ?_); (case wh => walk_at "hp"))
  | ((with_reducible refine' Z.w_isi_tb ?wh ?_); (case wh => walk_at "hp"))
  | ((with_reducible refine' Z.w_isi_ts ?wh ?_); (case wh => walk_at "hp"))
  | ((with_reducible refine' Z.w_isi_li ?wh ?_); (case wh => walk_at "hp"))
  | ((with_reducible refine' Z.w_isi_lb ?wh ?_); (case wh => walk_at "hp"))
  | ((with_reducible refine' Z.w_isi_ls ?wh ?_); (case wh => walk_at "hp"))
  | with_reducible refine Z.w_tand ?_
  | with_reducible refine Z.w_tor ?_
  | with_reducible refine Z.w_tnot ?_
  | with_reducible refine Z.w_ret ?_
  | with_reducible refine Z.w_next ?_
  | with_reducible refine Z.w_un ?_
  | with_reducible refine Z.w_rU ?_
  | with_reducible refine Z.w_tup ?_
  | with_reducible refine Z.w_lst ?_
  | with_reducible refine Z.w_par ?_
  | ((with_reducible refine' Z.w_par2 ?we ?_); case we => (simp only [List.set_cons_zero, List.set_cons_succ] <;> rfl))
  | with_reducible refine Z.w_gsub ?_
  | with_reducible refine Z.w_andV ?_
  | with_reducible refine Z.w_orV ?_
  | with_reducible refine Z.w_notV ?_
  | with_reducible refine Z.w_ifV ?_
  | with_reducible refine Z.w_drop ?_
  | with_reducible refine Z.w_break ?_
  | with_reducible refine Z.w_cont ?_
  | with_reducible refine Z.w_gcons ?_
  | with_reducible refine Z.w_gnil ?_
  | with_reducible refine Z.w_for ?_
  | with_reducible refine Z.w_rng1 ?_
  | with_reducible refine Z.w_bits ?_
  | with_reducible refine Z.w_callN ?_
  | with_reducible refine Z.w_callS ?_
  | with_reducible refine Z.w_gcd ?_
  | with_reducible refine Z.w_dnew (fun d hd => ?_)
  | with_reducible refine Z.w_dput ?_
  | with_reducible refine Z.w_din ?_
  | with_reducible refine Z.w_dnin ?_
  | with_reducible refine Z.w_iTup ?_
  | with_reducible refine Z.w_iList ?_
  | with_reducible refine Z.w_lc ?_
  | with_reducible refine Z.w_yes ?_
  | ((with_reducible refine' ⟨_, rfl, ⟨_, ?wh⟩, ?_⟩); (case wh => walk_at "seq"))
  | with_reducible refine Z.w_ex1 ?_
  | ((with_reducible refine' Z.w_ixH ?wh ?wa ?_); (case wh => walk_at "hp"); (case wa => exact rfl))
  | ((with_reducible refine' Z.w_ixTH ?wh ?wa ?_); (case wh => walk_at "hp"); (case wa => exact rfl))
  | ((with_reducible refine' Z.w_gtupH ?wh ?wa ?_); (case wh => walk_at "hp"); (case wa => exact rfl))
  | ((with_reducible refine' Z.w_setLu ?wh ?wa ?_); (case wh => exact rfl); (case wa => (simp only [Int.reduceToNat, List.set_cons_zero, List.set_cons_succ] <;> rfl)))
  | ((with_reducible refine' Z.w_setLh ?wg ?wh ?wa ?_); (case wg => walk_at "hp"); (case wh => exact rfl); (case wa => (simp only [Int.reduceToNat, List.set_cons_zero, List.set_cons_succ] <;> rfl)))
  | ((with_reducible refine Z.w_rI ?wc ?_); (case wc => walk_at "cond"))
  | with_reducible refine Or.inl ⟨_, rfl, ?_⟩
  | with_reducible refine Or.inr ⟨_, rfl, ?_⟩
  | ((with_reducible refine' ⟨_, _, rfl, Or.inl ?wh, ?_⟩); (case wh => walk_at "seq"))
  | ((with_reducible refine' ⟨_, _, rfl, Or.inr ?wh, ?_⟩); (case wh => walk_at "seq"))
  | ((with_reducible refine' Z.w_ixL ?wh ?wa ?_); (case wh => assumption); (case wa => assumption))
  | with_reducible refine ⟨_, rfl, ?_⟩
  | with_reducible refine ⟨_, _, rfl, ?_⟩
  | ((with_reducible refine ⟨?wl, fun q hq' => ?_⟩); (case wl => exact Z.sz4 (by simp)))
  | with_reducible refine Z.w_ibT ?_
  | with_reducible refine Z.w_ibF ?_
  | with_reducible refine Z.w_ibNT ?_
  | with_reducible refine Z.w_ibNF ?_
  | ((with_reducible refine Z.w_iteT ?wh ?_); (case wh => walk_at "ar"))
  | ((with_reducible refine Z.w_iteF ?wh ?_); (case wh => walk_at "ar"))
  | ((with_reducible refine Z.w_iteNT ?wh ?_); (case wh => walk_at "ar"))
  | ((with_reducible refine Z.w_iteNF ?wh ?_); (case wh => walk_at "ar"))
  | with_reducible refine ⟨rfl, ?_⟩
  | ((with_reducible refine' Z.w_ixH ?wh ?wa ?_); (case wh => walk_at "hp"); (case wa => assumption))
  | ((with_reducible refine' Z.w_ixTH ?wh ?wa ?_); (case wh => walk_at "hp"); (case wa => assumption))
  | ((with_reducible refine' Z.w_ixL ?wh ?wa ?_); (case wh => walk_at "seq"); (case wa => assumption))
  | ((with_reducible refine' Z.w_ixT ?wh ?wa ?_); (case wh => walk_at "seq"); (case wa => assumption))
  | ((with_reducible refine Z.w_iteF ?wh ?_); (case wh => (intro h; cases h; done)))
  | ((with_reducible refine Z.w_iteT ?wh ?_); (case wh => exact rfl))
  | fail "w1")
local macro_rules | `(tactic| walk_at "wi") => `(tactic| first
  | with_reducible refine Z.w_ite (fun hc => ?_) (fun hc => ?_)
  | with_reducible refine Z.w_iteN (fun hc => ?_) (fun hc => ?_)
  | with_reducible refine Z.w_iteb (fun hc => ?_) (fun hc => ?_))
local macro_rules | `(tactic| walk_at "w") => `(tactic| repeat' walk_at "w1")
namespace OWN
open PySem PySem.Spec PyProof.Rows L2
section
variable {prog : Program} {w : World} {A : Around} {E : Value → Shared → Prop} {s : Shared}
theorem next_endG {it l : Addr} {i : Nat} {items : Array Value} {Q : Option Value → Shared → Prop} (hh : A.handled = none)
    (hit : s.heap.get? it = some (GNX.itObj l i)) (hl : s.heap.IsList l items) (hx : items[i]? = none)
    (hQ : ∀ h', Heap.ExtBut it s.heap h' → h'.get? it = some (GNX.itEnd i) → Q none { s with heap := h' }) : wpAny (model prog w) A (pyNext (.ref it)) Q E s := by
  have hT : s.TypeIs (.ref it) "list_iterator" := ⟨_, hit, rfl⟩
  obtain ⟨ol, hol, _, nl, hdl⟩ := hl
  unfold pyNext
  refine wpAny_bind (wpAny_attempt (wpAny_callSpecial?_slot (name := Str.ofString "__next__") hT slot_listiter_next
    (wpAny_call_entry slot_listiter_next hT entry_listiter_next ?_ (args_listiter_next _))))
  show wpAny _ _ (field (.ref it) 0 >>= _) _ _ s
  refine wpAny_bind (wpAny_field hit rfl (x := .ref l) rfl ?_)
  show wpAny _ _ (if (Value.ref l == Value.none) = true then _ else _) _ _ s
  rw [if_neg (show ¬ ((Value.ref l == Value.none) = true) from Bool.false_ne_true)]
  show wpAny _ _ (field (.ref it) 1 >>= _) _ _ s
  refine wpAny_bind (wpAny_field hit rfl (x := .int i 0) rfl ?_)
  show wpAny _ _ (seqItems? (.ref l) >>= _) _ _ s
  refine wpAny_bind (wpAny_seqItems hol hdl ?_)
  simp only [Int.toNat_natCast, hx]
  refine wpAny_bind (wpAny_rule (wpAny_bind (wpAny_setField hit rfl (by simp) ?_)))
  have hit2 : (s.heap.update it (Obj.mapFields (·.setIfInBounds 0 Value.none))).get? it = some (GNX.itEnd i) := by
    rw [Heap.get?_update_self _ hit (by rfl)]
    exact congrArg some (GNX.end_obj l i)
  show wpAny _ _ (newExc (.type "StopIteration") [] >>= _) _ _ _
  refine wpAny_bind ?_
  simp only [newExc, newTuple]
  refine wpAny_bind (wpAny_newObj_type ?_ (by size_fits))
  refine wpAny_bind (m := firstArgMember _ _) (wpAny_of_eq (a := Value.none) (by first | rfl | (simp only [firstArgMember]; rfl)) ?_)
  refine wpAny_newObj_type ?_ (by size_fits)
  simp only [raiseNew]
  refine wpAny_bind (wpAny_handled ?_)
  rw [show A.in1.handled = none from hh]
  refine wpAny_bind (wpAny_pure (wpAny_throw ?_))
  refine wpAny_bind (wpAny_isInstance (T := "StopIteration") (b := true) ⟨_, Heap.get?_push_size _ rfl, rfl⟩ isSubtype_stop ?_)
  exact wpAny_pure (hQ _ (((Heap.SameBut.update ..).extBut.push _).push _) (Heap.get?_push_of_some _ (Heap.get?_push_of_some _ hit2)))
theorem next_itemG {it l : Addr} {i : Nat} {items : Array Value} {x : Value} {Q : Option Value → Shared → Prop} (hit : s.heap.get? it = some (GNX.itObj l i))
    (hl : s.heap.IsList l items) (hx : items[i]? = some x)
    (hQ : ∀ h', h'.get? it = some (GNX.itObj l (i + 1)) → Heap.SameBut it s.heap h' → Q (some x) { s with heap := h' }) : wpAny (model prog w) A (pyNext (.ref it)) Q E s := by
  have hT : s.TypeIs (.ref it) "list_iterator" := ⟨_, hit, rfl⟩
  unfold pyNext
  refine wpAny_bind (wpAny_attempt (wpAny_callSpecial?_slot (name := Str.ofString "__next__") hT slot_listiter_next
    (wpAny_call_entry slot_listiter_next hT entry_listiter_next ?_ (args_listiter_next _))))
  exact GNX.next_item (Q := fun v s' => wpAny _ _ _ _ _ s') hit hl hx fun h' h1 h2 => wpAny_pure (hQ h' h1 h2)
end
section
variable {X : Cx} {pins : List (Addr × Obj)} {σ : L2.St} {H : Hp} {s : Shared} {C fl fi a : Addr} {n : Nat} {A1 : Around}
/-- a call of an own def with one argument, from within a built-in -/
theorem own_call {f : Addr} {fd : FuncData} {ps : List Str} {sp : Sp} {EI : XK} {Q : VK} {Ex : Value → Shared → Prop} (sb : Sub X n A1) (F : FnOk X.prog X.w X.K X.mg X.base CX0 n f fd ps sp) (b : Binds X.K fd ps []) (I : Inv X pins σ H s) (hsp : sp [.ref a] H Q EI) :
    wpAny (model X.prog X.w) A1 (call (.ref f) [.ref a]) (fun u s' => ∃ v H', Inv X pins σ H' s' ∧ RelV v u ∧ Q v H') Ex s := by
  have e0 : Env0 X.prog X.w X.K X.mg X.base A1 X.stack s H := by
    have e := I.env0
    exact ⟨by rw [sb.fr]; exact e.frames, e.mod, e.bs, e.bsz, e.funs, e.frf, e.hok, e.bare⟩
  have hl := F.len _ _ _ _ hsp
  have r2 : Vals [V.ref a] [Value.ref a] := .cons rfl .nil
  refine wpAny_call (codeAny_mono (F.run A1 X.stack s H ⟨[.ref a], []⟩ [.ref a] [.ref a] Q EI sb.room e0 (by
    have := b s [.ref a] I.kIn (by simpa using hl)
    simpa using this) r2 hsp) fun r s' hq => ?_)
  cases r with
  | error e => exact False.elim hq
  | ok fl =>
    cases fl with
    | ret u => exact I.after hq
    | next => exact False.elim hq
    | brk => exact False.elim hq
    | cont => exact False.elim hq
/-- an own __len__ -/
structure LnC (K : PySem.W.Frag) (C fl : Addr) : Prop where
  ln : PySem.W.findIn K (.ref C) "__len__" = some (some (.ref fl))
  lt : PySem.W.typeIn K (.ref fl) = some (.type "function")
theorem own_len {fd : FuncData} {ps : List Str} {sp : Sp} {Q : VK} {dx : Addr} {fs : List (Str × V)} {Ex : Value → Shared → Prop} (sb : Sub X n A1.in1) (hc : LnC X.K C fl) (F : FnOk X.prog X.w X.K X.mg X.base CX0 n fl fd ps sp) (b : Binds X.K fd ps []) (I : Inv X pins σ H s) (ha : H a = some (.ins C dx fs))
    (hsp : sp [.ref a] H (fun v H' => ∃ k : Nat, v = .int k ∧ k < 2 ^ 60 ∧ Q (.int k) H') E0) :
    wpAny (model X.prog X.w) A1 (call (.builtin "len") [.ref a]) (fun u s' => ∃ (k : Nat) (tk : Tok) (H' : Hp), u = .int k tk ∧ k < 2 ^ 60 ∧ Inv X pins σ H' s' ∧ Q (.int k) H') Ex s := by
  obtain ⟨mA, J, _⟩ := ins_get I.hok ha
  obtain ⟨od, J, _⟩ := J.look
  refine Calls.call_function_entry kind_len plain_len entry_len (args_len1 _) ?_
  unfold Builtin.«len»
  refine wpAny_bind (m := oneArg "len" _) (wpAny_pure ?_)
  refine wpAny_bind (m := callSpecial? (.ref a) (Str.ofString "__len__")) (PySem.W.special_fn (name := "__len__") (args := []) I.kIn J hc.ln hc.lt ?_)
  refine wpAny_mono (own_call sb F b I hsp) (fun u s' hu => ?_) fun _ _ z => z
  obtain ⟨v, H', I', r, k, rfl, hk, q⟩ := hu
  obtain ⟨t, rfl⟩ := (show ∃ t, u = Value.int k t from r)
  show wpAny _ _ _ _ _ _
  refine wpAny_bind (wpAny_holding (wpAny_pure ?_))
  refine wpAny_bind (wpAny_letGo ?_)
  show wpAny _ _ (if (k : Int) < 0 then _ else _) _ _ _
  rw [if_neg (by omega)]
  show wpAny _ _ (if (k : Int) ≥ 2 ^ 63 then _ else _) _ _ _
  rw [if_neg (by omega)]
  exact wpAny_bind (wpAny_mkInt (wpAny_pure ⟨_, rfl, k, _, H', rfl, hk, I'.kept (t' := _) (fun _ _ z => z), q⟩))
def rLenOwn (C : Addr) (sp : Sp) : List V → Hp → VK → Prop := fun xs H Q => ∃ (a dx : Addr) (fs : List (Str × V)), xs = [.ref a] ∧ H a = some (.ins C dx fs) ∧ sp [.ref a] H (fun v H' => ∃ k : Nat, v = .int k ∧ k < 2 ^ 60 ∧ Q (.int k) H') E0
/-- len(o) -/
theorem call_lenOwn {fd : FuncData} {ps : List Str} {sp : Sp} (hc : LnC X.K C fl) (F : FnOk X.prog X.w X.K X.mg X.base CX0 n fl fd ps sp) (b : Binds X.K fd ps []) (hr : Room (n + 1) X.A) : CallR X (.builtin "len") (rLenOwn C sp) := by
  intro pins s σ H xs us Q I rv h
  obtain ⟨a, dx, fs, rfl, ha, hsp⟩ := h
  obtain ⟨u, rfl, ru⟩ := rv.one
  cases ru
  refine wpAny_mono (own_len (Sub.in1 (⟨hr, rfl⟩ : Sub X (n + 1) X.A)) hc F b I ha hsp) (fun u s' hu => ?_) fun _ _ z => z
  obtain ⟨k, tk, H', rfl, hk, I', q⟩ := hu
  exact ⟨.int k, H', I', ⟨_, rfl⟩, q⟩
/-- an own __iter__ that gives an iterator over a list, and an own __len__ -/
structure ItB (K : PySem.W.Frag) (C fi fl : Addr) : Prop where
  it : PySem.W.findIn K (.ref C) "__iter__" = some (some (.ref fi))
  itF : PySem.W.isFn K (.ref fi) = true
  ln : LnC K C fl
theorem upd_swap {H : Hp} {q it : Addr} {o1 o2 o3 o4 : HO} (h : q ≠ it) : upd (upd (upd (upd H q o1) it o2) it o3) q o4 = upd (upd H q o4) it o3 := by
  funext b
  by_cases h1 : b = q
  · subst h1
    rw [upd_same, upd_ne h, upd_same]
  · rw [upd_ne h1]
    by_cases h2 : b = it
    · subst h2
      rw [upd_same, upd_same]
    · rw [upd_ne h2, upd_ne h2, upd_ne h1, upd_ne h2, upd_ne h1]
theorem sqL_upd {K : PySem.W.Frag} {H : Hp} {l b : Addr} {o : HO} {xs : List V} (h : SqL K H l xs) (n : l ≠ b) : SqL K (upd H b o) l xs := by
  rcases h with (h | ⟨o', h⟩) | h
  · exact .inl (.inl (by rw [upd_ne n]; exact h))
  · exact .inl (.inr ⟨o', by rw [upd_ne n]; exact h⟩)
  · exact .inr h
theorem it_loop {q l it : Addr} {ys : List V} {H0 : Hp} {Rs : Result → Shared → Prop} (hh : A1.in1.handled = none) (hS : SqL X.K H0 l ys) (n1 : l ≠ q) (n2 : l ≠ it) (n3 : q ≠ it) (hz : ys.length ≤ sizeLine)
    (hdone : ∀ s, Inv X pins σ (upd (upd H0 q (.lst ys)) it (ItE it ys.length)) s → Rs (.ok (.ret .none)) s) :
    ∀ (m i : Nat) (s : Shared), m = ys.length - i → i ≤ ys.length → Inv X pins σ (upd (upd H0 q (.lst (ys.take i))) it (ItO l it i)) s → codeAny (model X.prog X.w) A1 (.builtin "list.extend.loop" ⟨[.ref q, .ref it, .none], []⟩) Rs s := by
  intro m
  induction m with
  | zero =>
    intro i s hm hi I
    have e : i = ys.length := by omega
    subst e
    refine codeAny_builtin PySem.F.entry_extend_loop ?_
    rw [Around.under_plainId PySem.F.plain_extend_loop _]
    show wpAny _ A1.in1 (pyNext (.ref it) >>= _) _ _ s
    have hit := (I.hok it _ upd_same).1
    obtain ⟨its, rv, pl, _⟩ := I.list (sqL_upd (sqL_upd hS n1) n2)
    have hlen := rv.length
    refine wpAny_bind (next_endG hh hit pl.isList (by simp [hlen]) fun h' hx he => ?_)
    refine wpAny_pure (hdone _ ?_)
    have I1 : Inv X pins σ (upd (upd (upd H0 q (.lst (ys.take ys.length))) it (ItO l it ys.length)) it (ItE it ys.length)) { s with heap := h' } :=
      I.write (x := it) (e := it) (t' := s.toks) (by rw [upd_same]; exact trivial) (.inl rfl) (fun b u hb e => hx b u hb e) ⟨_, he⟩ (itE_ok he)
    rw [upd_upd, List.take_length] at I1
    exact I1
  | succ m ih =>
    intro i s hm hi I
    have hlt : i < ys.length := by omega
    refine codeAny_builtin PySem.F.entry_extend_loop ?_
    rw [Around.under_plainId PySem.F.plain_extend_loop _]
    show wpAny _ A1.in1 (pyNext (.ref it) >>= _) _ _ s
    have hit := (I.hok it _ upd_same).1
    obtain ⟨its, rv, pl, _⟩ := I.list (sqL_upd (sqL_upd hS n1) n2)
    have hlen := rv.length
    obtain ⟨u, hu, ru⟩ := rv.get (List.getElem?_eq_getElem hlt)
    refine wpAny_bind (next_itemG hit pl.isList (x := u) (by simpa using hu) fun h' he hx => ?_)
    have I1 : Inv X pins σ (upd (upd (upd H0 q (.lst (ys.take i))) it (ItO l it i)) it (ItO l it (i + 1))) { s with heap := h' } :=
      I.write (x := it) (e := it) (t' := s.toks) (by rw [upd_same]; exact trivial) (.inl rfl) (fun b u hb e => (hx.2 b hb).trans e) ⟨_, he⟩ (itO_ok he)
    have hq : (upd (upd (upd H0 q (.lst (ys.take i))) it (ItO l it i)) it (ItO l it (i + 1))) q = some (.lst (ys.take i)) := by rw [upd_ne n3, upd_ne n3, upd_same]
    obtain ⟨z, is2, k, r2, hl2, e⟩ := I1.lstM hq
    have hl3 : is2.length ≤ sizeLine := by omega
    rw [List.length_take] at hl2
    show wpAny _ A1.in1 (updateSeq q (·.push u) >>= _) _ _ _
    refine wpAny_bind (wpAny_updateSeq e rfl (wpAny_pure ⟨plainId_quiet PySem.F.plain_extend_loop _, ?_⟩) (by rw [List.size_toArray]; omega) (by show (is2.toArray.push u).size ≤ sizeLine + 1; rw [Array.size_push, List.size_toArray]; omega))
    have ht : ys.take (i + 1) = ys.take i ++ [ys[i]] := by rw [List.take_add_one, List.getElem?_eq_getElem hlt]; rfl
    refine ih (i + 1) _ (by omega) hlt ?_
    have I2 := I1.lset (its' := is2 ++ [u]) (ys := ys.take (i + 1)) (t' := s.toks) (f := (·.push u)) hq e (by simp) (by rw [ht]; exact r2.append (.cons ru .nil)) (by rw [List.length_take]; omega)
    rw [upd_swap n3] at I2
    exact I2
/-- list(o) -/
def LenEnd (H : Hp) (R : Prop) : VK := fun v H' => ∃ k : Nat, v = .int k ∧ k < 2 ^ 60 ∧ (H' = H ∧ (∀ j : Nat, V.int k = .int j → j ≤ sizeLine) ∧ R)
def rListIt (K : PySem.W.Frag) (C : Addr) (spI spL : Sp) : List V → Hp → VK → Prop := fun xs H Q => ∃ (a dx : Addr) (fs : List (Str × V)), xs = [.ref a] ∧ H a = some (.ins C dx fs) ∧
  ∀ q, H q = none → spI [.ref a] (upd H q (.lst [])) (fun v H1 => ∃ (l it : Addr) (ys : List V) (Hb : Hp) (fs' : List (Str × V)) (dx' : Addr), v = .ref it ∧ H1 = upd (upd Hb q (.lst [])) it (ItO l it 0) ∧ l ≠ q ∧ l ≠ it ∧ q ≠ it ∧ ys.length ≤ 1000 ∧ SqL K Hb l ys ∧ H1 a = some (.ins C dx' fs') ∧
    spL [.ref a] H1 (LenEnd H1 (Q (.ref q) (upd (upd Hb q (.lst ys)) it (ItE it ys.length)))) E0) E0
theorem own_hintL {fd : FuncData} {ps : List Str} {sp : Sp} {dx : Addr} {fs : List (Str × V)} {Qb : Bool → Shared → Prop} {Ex : Value → Shared → Prop} (sb : Sub X n A1.in1) (hc : LnC X.K C fl) (F : FnOk X.prog X.w X.K X.mg X.base CX0 n fl fd ps sp) (b : Binds X.K fd ps []) (I : Inv X pins σ H s) (ha : H a = some (.ins C dx fs))
    {R : Prop} (hsp : sp [.ref a] H (LenEnd H R) E0) (hq : ∀ b s', R → Inv X pins σ H s' → Qb b s') :
    wpAny (model X.prog X.w) A1 (Builtin.List.listLengthHint (.ref a)) Qb Ex s := by
  obtain ⟨mA, J, _⟩ := ins_get I.hok ha
  obtain ⟨od, J, _⟩ := J.look
  unfold Builtin.List.listLengthHint
  refine wpAny_bind (wpAny_bind (J.type.here ((PySem.W.looks_findIn I.kIn hc.ln).here ?_)))
  refine PySem.W.KFB.if_not rfl ?_
  rw [if_pos (show (some (Value.ref fl)).isSome = true from rfl)]
  refine wpAny_bind (wpAny_rule ?_)
  refine wpAny_bind (wpAny_attempt (wpAny_mono (own_len (Q := fun v H' => H' = H ∧ (∀ j : Nat, v = .int j → j ≤ sizeLine) ∧ R) (Ex := fun _ _ => False) sb hc F b I ha hsp) (fun u s' hu => ?_) fun e s' he => he.elim))
  obtain ⟨k, tk, H', rfl, hk, I', rfl, hz, hR⟩ := hu
  have hz' := hz k rfl
  show wpAny _ _ _ _ _ _
  refine wpAny_bind (wpAny_pure ?_)
  show wpAny _ _ (if Builtin.List.listTooLong ((k : Int)).toNat = true then _ else pure ((k : Int) != 0)) _ _ _
  rw [if_neg (by rw [Int.toNat_natCast, notLongL hz']; exact Bool.false_ne_true)]
  exact wpAny_pure (hq _ _ hR I')
theorem listiter_next : typeLookup (.type "list_iterator") "__next__" = pure (some (.builtin "list_iterator.__next__")) := slot_listiter_next.lookup
theorem call_listIt {fdI fdL : FuncData} {psI psL : List Str} {spI spL : Sp} (hc : ItB X.K C fi fl) (FI : FnOk X.prog X.w X.K X.mg X.base CX0 n fi fdI psI spI) (bI : Binds X.K fdI psI []) (FL : FnOk X.prog X.w X.K X.mg X.base CX0 n fl fdL psL spL) (bL : Binds X.K fdL psL []) (hr : Room (n + 3) X.A) (hh : X.A.handled = none) : CallR X (.type "list") (rListIt X.K C spI spL) := by
  intro pins s σ H xs us Q I rv h
  obtain ⟨a, dx, fs, rfl, ha, hq⟩ := h
  obtain ⟨u, rfl, ru⟩ := rv.one
  cases ru
  have sb : Sub X (n + 1) X.A.in1.in1 := Sub.in1 (Sub.in1 (⟨hr, rfl⟩ : Sub X (n + 3) X.A))
  refine callType_codes (Q₁ := fun obj s₁ => obj = .ref s.heap.objs.size ∧ s₁ = { s with heap := s.heap.push { cls := .type "list", data := .seq #[] } }) PySem.F.called_list (PySem.F.typeCall_list_1 _) PySem.F.entry_list_init
    (code_list_new _ ⟨rfl, rfl⟩) fun obj s₁ h₁ => ?_
  obtain ⟨rfl, rfl⟩ := h₁
  have hS : (s.heap.push { cls := .type "list", data := .seq #[] }).get? s.heap.objs.size = some { cls := .type "list", data := .seq #[] } := Heap.get?_push_size _ rfl
  refine ⟨⟨_, hS, rfl⟩, PySem.F.args_list_init_2 _ _, ?_⟩
  have fr : H s.heap.objs.size = none := I.hok.fresh (Nat.le_refl _)
  have hrun := hq _ fr
  have I1 : Inv X pins σ (upd H s.heap.objs.size (.lst [])) { s with heap := s.heap.push { cls := .type "list", data := .seq #[] } } := I.lnew (its := []) (t' := s.toks) .nil (Nat.zero_le _)
  show wpAny _ _ (do let old ← Builtin.List.listItems (.ref s.heap.objs.size); Builtin.List.listUpdate (.ref s.heap.objs.size) (fun _ => #[]); letGo old.toList.reverse; Builtin.List.listExtendWith (.ref s.heap.objs.size) (.ref a) .none) _ _ _
  refine wpAny_bind ?_
  unfold Builtin.List.listItems
  refine wpAny_bind (wpAny_seqItems hS rfl (wpAny_pure ?_))
  show wpAny _ _ (updateSeq s.heap.objs.size (fun _ => #[]) >>= fun _ => letGo (#[] : Array Value).toList.reverse >>= fun _ => Builtin.List.listExtendWith (.ref s.heap.objs.size) (.ref a) .none) _ _ _
  refine wpAny_bind (wpAny_updateSeq hS rfl ?_)
  have I2 := I1.lset (f := fun _ => #[]) (its := []) (its' := []) (ys := []) (t' := s.toks) upd_same hS rfl .nil (Nat.zero_le _)
  rw [upd_upd] at I2
  refine wpAny_bind (wpAny_letGo ?_)
  have ha2 : upd H s.heap.objs.size (.lst []) a = some (.ins C dx fs) := by rw [upd_ne (ne_of_none ha fr)]; exact ha
  have hne : s.heap.objs.size ≠ a := Ne.symm (ne_of_none ha fr)
  generalize s.heap.objs.size = q at *
  obtain ⟨mA, J, _⟩ := ins_get I2.hok ha2
  obtain ⟨od, J, _⟩ := J.look
  obtain ⟨m0, hF⟩ := I2.fr
  unfold Builtin.List.listExtendWith
  refine wpAny_bind (J.type.here ?_)
  have h1 : Builtin.List.listSameRef (.ref q) (.ref a) = false := by simp [Builtin.List.listSameRef, hne]
  have h2 : (Value.ref C == Value.type "list") = false := rfl
  have h3 : (Value.ref C == Value.type "tuple") = false := rfl
  simp only [h1, h2, h3, Bool.or_false, Bool.false_eq_true, if_false]
  refine wpAny_bind (PySem.W.owit_iter hF I2.ok.mod.kin J hc.it hc.itF ?_)
  refine wpAny_mono (own_call (sb.mono (Nat.le_succ _)) FI bI I2 hrun) (fun u s' hu => ?_) fun _ _ z => z
  obtain ⟨v, H1, J1, rv1, l, it, ys, Hb, fs', dx', rfl, rfl, n1, n2, n3, hy, hS1, ha3, hlen⟩ := hu
  cases rv1
  have hz : ys.length ≤ sizeLine := Nat.le_trans hy (by decide)
  have hit := (J1.hok it _ upd_same).1
  have hT : s'.TypeIs (.ref it) "list_iterator" := ⟨_, hit, rfl⟩
  unfold PySem.W.OwitIt
  refine wpAny_specialOf (name := "__next__") hT listiter_next ?_
  refine wpAny_bind (wpAny_holding (own_hintL sb.in1 hc.ln FL bL J1 ha3 hlen fun b s2 hR J2 => ?_))
  have fin : ∀ s3, Inv X pins σ (upd (upd Hb q (.lst [])) it (ItO l it 0)) s3 → codeAny (model X.prog X.w) X.A.in1 (.builtin "list.extend.loop" ⟨[.ref q, .ref it, .none], []⟩) (wants (fun r s₂ => r = .none ∧ EP X pins σ Q (.ref q) s₂) X.xe) s3 := fun s3 J3 =>
    it_loop (A1 := X.A.in1) (H0 := Hb) (ys := ys) hh hS1 n1 n2 n3 hz (fun s4 J4 => ⟨rfl, .ref q, _, J4, rfl, hR⟩) ys.length 0 s3 rfl (Nat.zero_le _) J3
  refine wpAny_ite_split (fun _ => ?_) (fun _ => wpAny_pure ⟨plainId_quiet PySem.F.plain_extend_loop _, fin _ J2⟩)
  have hq0 : (upd (upd Hb q (.lst [])) it (ItO l it 0)) q = some (.lst []) := by rw [upd_ne n3, upd_same]
  obtain ⟨z, its, k, r3, hl3, e3⟩ := J2.lstM hq0
  cases r3
  refine wpAny_bind (wpAny_rule ?_)
  refine wpAny_bind ?_
  show wpAny _ _ (updateSeq q (·.push .none) >>= fun _ => updateSeq q (·.pop)) _ _ _
  refine wpAny_bind (wpAny_updateSeq e3 rfl ?_)
  have I5 := J2.lset (f := (·.push Value.none)) (its' := [Value.none]) (ys := [.non]) (t' := s2.toks) hq0 e3 (by simp) (.cons rfl .nil) (by rw [List.length_singleton, sizeLine_eq]; decide)
  obtain ⟨z4, its4, k4, r4, hl4, e4⟩ := I5.lstM upd_same
  obtain ⟨u4, rfl, ru4⟩ := r4.one
  refine wpAny_updateSeq e4 rfl ?_ (by show 1 ≤ sizeLine; rw [sizeLine_eq]; decide) (by show 0 ≤ sizeLine + 1; exact Nat.zero_le _)
  refine wpAny_pure ⟨plainId_quiet PySem.F.plain_extend_loop _, fin _ ?_⟩
  have I6 := I5.lset (f := (·.pop)) (its := [u4]) (its' := []) (ys := []) (t' := s2.toks) upd_same e4 (by rfl) .nil (Nat.zero_le _)
  rw [upd_upd] at I6
  have hH : upd (upd (upd Hb q (.lst [])) it (ItO l it 0)) q (.lst []) = upd (upd Hb q (.lst [])) it (ItO l it 0) := by
    funext b
    by_cases hb : b = q
    · rw [hb, upd_same, hq0]
    · rw [upd_ne hb]
  rw [hH] at I6
  exact I6
end
end OWN

namespace DT
open PySem PySem.Spec PyProof.Rows L2
/-- what is known of a tuple that was made from a list -/
def Bare (o : Obj) : Prop := o.cls = .type "tuple" ∧ o.dict = none
section
variable {X : Cx}
def rTupZ (K : PySem.W.Frag) : List V → Hp → VK → Prop := fun xs H Q => ∃ (p : Addr) (ys : List V), xs = [.ref p] ∧ SqL K H p ys ∧ ∀ (l : Addr) (o : Obj), H l = none → Bare o → Q (.ref l) (upd H l (.frz o (.tup ys)))
theorem call_tupleZ : CallR X (.type "tuple") (rTupZ X.K) := by
  intro pins s σ H xs us Q I r h
  obtain ⟨p, ys, rfl, hq, q⟩ := h
  obtain ⟨u, rfl, rx⟩ := vals1 r
  cases rx
  obtain ⟨its, r', pl, hz⟩ := I.list hq
  have hlen := r'.length
  refine call_tuple_list pl.isList (fun h' kp => ?_) (by simp only [List.size_toArray] <;> omega)
  have I1 : Inv X pins σ H { s with heap := h' } := I.kept (t' := s.toks) kp
  have I2 : Inv X pins σ (upd H h'.objs.size (.frz { cls := .type "tuple", data := .seq its.toArray } (.tup ys))) { s with heap := h'.push { cls := .type "tuple", data := .seq its.toArray } } :=
    I1.laid (t' := s.toks) (fun b o e => Heap.get?_push_of_some _ e) (Nat.le_refl _) (show ObjOk X.prog X.w _ _ _ (.frz _ (.tup ys)) from ⟨Heap.get?_push_size _ rfl, hz, its, r', IsTup.new _ _⟩)
  exact ⟨.ref h'.objs.size, _, I2, rfl, q _ _ (I1.hok.fresh (Nat.le_refl _)) ⟨rfl, rfl⟩⟩
theorem pairs_of2 {pins : List (Addr × Obj)} {σ : L2.St} {H : Hp} {s : Shared} (I : Inv X pins σ H s) : ∀ {ps : List Addr} {kvs : List (Key × V)}, PySem.Paired (fun p kv => SqT X.K H p [kV kv.1, kv.2]) ps kvs →
    ∃ (prs : List (Key × Value)) (uvs : List (Value × Value)), KV kvs prs ∧ prs.length = ps.length ∧ uvs.length = ps.length ∧ ∀ (j : Nat) (u x : Value), uvs[j]? = some (u, x) → ∃ (b : Addr) (k : Key), ps[j]? = some b ∧ prs[j]? = some (k, x) ∧ IsTup s.heap b #[u, x] ∧ keyIs k u = true
  | _, _, .nil => ⟨[], [], .nil, rfl, rfl, fun j u x e => by simp at e⟩
  | _, _, .cons (a := p) (b := kv) h t => by
    obtain ⟨prs, uvs, r, hl, hl2, hp⟩ := pairs_of2 I t
    obtain ⟨its, rv, ht, _⟩ := I.tuple h
    obtain ⟨u, y, ei, ru, ry⟩ := vals2 rv
    subst ei
    refine ⟨(kv.1, y) :: prs, (u, y) :: uvs, .cons ⟨rfl, ry⟩ r, by rw [List.length_cons, List.length_cons, hl], by rw [List.length_cons, List.length_cons, hl2], fun j u' x e => ?_⟩
    cases j with
    | zero =>
      have e' : (u, y) = (u', x) := Option.some.inj e
      obtain ⟨e1, e2⟩ := Prod.mk.inj e'
      subst e1
      subst e2
      exact ⟨p, kv.1, rfl, rfl, ht, kV_is (P := X.prog) (w := X.w) ru⟩
    | succ j =>
      obtain ⟨b, k, e1, e2, e3⟩ := hp j u' x (by simpa using e)
      exact ⟨b, k, by simpa using e1, by simpa using e2, e3⟩
def rDictT (K : PySem.W.Frag) : List V → Hp → VK → Prop := fun xs H Q => ∃ (a : Addr) (o : Obj) (ps : List Addr) (kvs : List (Key × V)), xs = [.ref a] ∧ H a = some (.frz o (.tup (ps.map V.ref))) ∧ Bare o ∧ PySem.Paired (fun p kv => SqT K H p [kV kv.1, kv.2]) ps kvs ∧
    ∀ p, H p = none → Q (.ref p) (upd H p (.dK (mergeK [] kvs)))
theorem call_dictT (hcalm : X.calm = true) : CallR X (.type "dict") (rDictT X.K) := by
  intro pins s σ H xs us Q I r q
  obtain ⟨a, o, ps, kvs, rfl, ha, ⟨hcls, hdict⟩, hp, q⟩ := q
  obtain ⟨u, rfl, rx⟩ := vals1 r
  cases rx
  obtain ⟨ho, hz, its, rv, o', ho', hc', n, hdat⟩ := (show ObjOk X.prog X.w H s.heap a (.frz o (.tup (ps.map V.ref))) from I.hok a _ ha)
  have eo : o' = o := Option.some.inj (ho'.symm.trans ho)
  subst eo
  have ei := refs_at rv
  subst ei
  rw [List.length_map] at hz
  obtain ⟨prs, uvs, rel, hl, hl2, hpr⟩ := pairs_of2 I hp
  have hP := PairArg.tuple (prog := X.prog) (w := X.w) a (ps.map Value.ref).toArray (fun j => ps.getD j 0) uvs
  refine PySem.call_dict_pairs (knd := mixKind X.prog X.w) (kvs := prs) hP (I.ok.hd hcalm) ⟨⟨o', n, ho, hc', hdict, hdat⟩, ?_, fun j k v e => ?_⟩ ⟨by rw [hl, hl2], fun i key v e => ?_⟩ (by rw [hl2]; exact hz) fun h' tk hd' k => ?_
  · simp [hl2]
  · obtain ⟨b, k', e1, e2, e3, e4⟩ := hpr j k v e
    have hg : ps.getD j 0 = b := by
      rw [List.getD_eq_getElem?_getD, e1]
      rfl
    show (ps.map Value.ref).toArray[j]? = some (.ref (ps.getD j 0)) ∧ PairAt s.heap (ps.getD j 0) k v
    rw [hg]
    exact ⟨by simp [e1], .inl e3⟩
  · obtain ⟨b, k', e1, e2, e3, e4⟩ := hpr i key v e
    exact ⟨k', e2, e4⟩
  · have hm : (s.heap.objs.size == sysModules) = false := beq_eq_false_iff_ne.mpr (Nat.ne_of_gt I.big)
    have hlen : (mergeK [] kvs).length ≤ sizeLine := by
      refine Nat.le_trans (length_mergeK kvs []) ?_
      rw [List.length_nil, Nat.zero_add, rel.length, hl]
      exact hz
    exact ⟨.ref s.heap.objs.size, upd H s.heap.objs.size (.dK (mergeK [] kvs)), I.laid (t' := tk) (fun b o e => k b o (by intro h; cases h) e) (Nat.le_refl _) (show ObjOk X.prog X.w _ _ _ (.dK (mergeK [] kvs)) from ⟨hlen, hm, merged [] prs, KV.merge rel .nil, hd'⟩), rfl, q _ (I.hok.fresh (Nat.le_refl _))⟩
theorem hits_ref {A : Around} {s : Shared} {kvs : List (Key × V)} {vb : List (Key × Value)} (rb : KV kvs vb) {ks : List (Key × V)} {va : List (Key × Value)} (ra : KV ks va) :
    (∀ p ∈ ks, valV kvs p.1 = some p.2 ∧ ∃ t, p.2 = V.ref t) → PySem.W.KeqHits A s vb va true := by
  unfold KV at ra
  induction ra with
  | nil => intro _; exact .nil
  | @cons p q ps qs h t ih =>
    intro hp
    obtain ⟨h1, h2⟩ := h
    obtain ⟨e, t', f⟩ := hp p List.mem_cons_self
    have rr : RelO (some p.2) (valueAt vb p.1) := by rw [← e]; exact rb.val p.1
    obtain ⟨y, hy, ry⟩ := rr.some_of
    obtain ⟨k, v⟩ := q
    have h1' : p.1 = k := h1
    rw [h1'] at hy
    rw [f] at ry h2
    have e1 : y = Value.ref t' := ry
    have e2 : v = Value.ref t' := h2
    subst e1
    subst e2
    show PySem.W.KeqHits A s vb ((k, Value.ref t') :: qs) (true && true)
    exact .hit hy (SeqAt.EqAt.same _) (ih fun p' hm => hp p' (List.mem_cons_of_mem _ hm))
def rEqDR : R2 := fun x y H Q => ∃ (a b : Addr) (kvs : List (Key × V)), x = .ref a ∧ y = .ref b ∧ H a = some (.dK kvs) ∧ H b = some (.dK kvs) ∧ (kvs.map (·.1)).Nodup ∧ (∀ p ∈ kvs, ∃ t, p.2 = V.ref t) ∧ Q (.bl true) H
theorem op_eq_dictR (hu : X.A.units < cLine) : OpR X (compareOp .Eq) rEqDR := by
  intro pins s σ H x y v u Q I rx ry h
  obtain ⟨a, b, kvs, rfl, rfl, ea, eb, nd, fl, q⟩ := h
  obtain rfl : v = Value.ref a := rx
  obtain rfl : u = Value.ref b := ry
  obtain ⟨_, ya, va, ra, da⟩ := (show ObjOk X.prog X.w H s.heap a (.dK kvs) from I.hok a _ ea)
  obtain ⟨_, yb, vb, rb, db⟩ := (show ObjOk X.prog X.w H s.heap b (.dK kvs) from I.hok b _ eb)
  have hl : va.length = vb.length := by rw [← ra.length, ← rb.length]
  exact PySem.W.keq_eq (knd := mixKind X.prog X.w) (r := true) ya yb da db hu (fun _ => hits_ref rb ra fun p hp => ⟨val_nodup nd p hp, fl p hp⟩) (fin_bl I q (by simp [hl]))
end
end DT
namespace DT
open PySem PySem.Spec PyProof.Rows L2
section
variable {X : Cx}
/-- d.update(e) of two dicts -/
def rUpdate : V → List V → Hp → VK → Prop := fun x xs H Q => ∃ (d o : Addr) (kvs more : List (Key × V)), x = .ref d ∧ xs = [.ref o] ∧ d ≠ o ∧ H d = some (.dK kvs) ∧ H o = some (.dK more) ∧ kvs.length + more.length ≤ sizeLine ∧ Q .non (upd H d (.dK (mergeK kvs more)))
theorem mt_update : MtR X "dict.update" rUpdate := by
  intro pins s σ H x xs v us Q I rx rv h
  obtain ⟨d, o, kvs, more, rfl, rfl, hne, hd, ho, hz, q⟩ := h
  cases rx
  obtain ⟨u, rfl, ru⟩ := rv.one
  cases ru
  obtain ⟨_, y1, va, ra, da⟩ := dk_of I.hok hd
  obtain ⟨_, y2, vb, rb, db⟩ := dk_of I.hok ho
  have hz2 : va.length + vb.length ≤ sizeLine := by rw [← ra.length, ← rb.length]; exact hz
  refine call_meetsIn PySem.F.slot_dict_update da.typeIs PySem.F.entry_dict_update (PySem.F.args_dict_update_2 _ _) (meets_dict_update (mixKind X.prog X.w) d o hne y2) ⟨va, vb, da, db, hz2, fun h' hd' ho' hs => ?_⟩
  have hlen : (mergeK kvs more).length ≤ sizeLine := Nat.le_trans (length_mergeK more kvs) (by omega)
  have he : ∃ q, h'.get? d = some q := by
    obtain ⟨ob, _, _, hob, _⟩ := hd'
    exact ⟨ob, hob⟩
  exact ⟨V.non, _, d_write (t' := s.toks) I (by rw [hd]; exact trivial) hs he (dk_new hlen y1 (rb.merge ra) hd'), rfl, q⟩
end
end DT

namespace QC
open PySem PySem.Spec PyProof.Rows L2
def rLenQ (K : PySem.W.Frag) : List V → Hp → VK → Prop := fun xs H Q => ∃ p ys, xs = [.ref p] ∧ (SqL K H p ys ∨ SqT K H p ys) ∧ Q (.int ys.length) H
theorem call_lenQ {X : Cx} : CallR X (.builtin "len") (rLenQ X.K) := call_len_seq
end QC

namespace OWN
open PySem PySem.Spec PyProof.Rows L2
section
variable {X : Cx} {pins : List (Addr × Obj)} {σ : L2.St} {H : Hp} {s : Shared} {C fc a : Addr} {n : Nat} {A1 : Around}
/-- a call of an own def with two arguments, from within a built-in or an operator -/
theorem own_call2 {f : Addr} {fd : FuncData} {ps : List Str} {sp : Sp} {EI : XK} {Q : VK} {x y : V} {u v : Value} {Ex : Value → Shared → Prop} (sb : Sub X n A1) (F : FnOk X.prog X.w X.K X.mg X.base CX0 n f fd ps sp) (b : Binds X.K fd ps []) (I : Inv X pins σ H s) (rx : RelV x u) (ry : RelV y v) (hsp : sp [x, y] H Q EI) :
    wpAny (model X.prog X.w) A1 (call (.ref f) [u, v]) (fun u s' => ∃ v H', Inv X pins σ H' s' ∧ RelV v u ∧ Q v H') Ex s := by
  have e0 : Env0 X.prog X.w X.K X.mg X.base A1 X.stack s H := by
    have e := I.env0
    exact ⟨by rw [sb.fr]; exact e.frames, e.mod, e.bs, e.bsz, e.funs, e.frf, e.hok, e.bare⟩
  have hl := F.len _ _ _ _ hsp
  have r2 : Vals [x, y] [u, v] := .cons rx (.cons ry .nil)
  refine wpAny_call (codeAny_mono (F.run A1 X.stack s H ⟨[u, v], []⟩ [u, v] [x, y] Q EI sb.room e0 (by
    have := b s [u, v] I.kIn (by simpa using hl)
    simpa using this) r2 hsp) fun r s' hq => ?_)
  cases r with
  | error e => exact False.elim hq
  | ok fl =>
    cases fl with
    | ret u => exact I.after hq
    | next => exact False.elim hq
    | brk => exact False.elim hq
    | cont => exact False.elim hq
/-- an own __contains__ -/
structure InC (K : PySem.W.Frag) (C fc : Addr) : Prop where
  it : PySem.W.findIn K (.ref C) "__contains__" = some (some (.ref fc))
  lt : PySem.W.typeIn K (.ref fc) = some (.type "function")
/-- x in o: what the own def gives is a bool -/
def rInOwn (C : Addr) (sp : Sp) (neg : Bool) : R2 := fun x y H Q => ∃ (a dx : Addr) (fs : List (Str × V)), y = .ref a ∧ H a = some (.ins C dx fs) ∧ sp [.ref a, x] H (fun v H' => ∃ b : Bool, v = .bl b ∧ Q (.bl (if neg then !b else b)) H') E0
theorem own_contains {fd : FuncData} {ps : List Str} {sp : Sp} {dx : Addr} {fs : List (Str × V)} {Q : Bool → Hp → Prop} {Qs : Bool → Shared → Prop} {x : V} {u : Value} {Ex : Value → Shared → Prop} (sb : Sub X n A1) (hc : InC X.K C fc) (F : FnOk X.prog X.w X.K X.mg X.base CX0 n fc fd ps sp) (b : Binds X.K fd ps []) (I : Inv X pins σ H s) (ha : H a = some (.ins C dx fs)) (rx : RelV x u)
    (hsp : sp [.ref a, x] H (fun v H' => ∃ b : Bool, v = .bl b ∧ Q b H') E0) (hq : ∀ b s' H', Inv X pins σ H' s' → Q b H' → Qs b s') :
    wpAny (model X.prog X.w) A1 (contains (.ref a) u) Qs Ex s := by
  obtain ⟨mA, J, _⟩ := ins_get I.hok ha
  obtain ⟨od, J, _⟩ := J.look
  unfold contains
  refine wpAny_holding ?_
  have hnone : stdlibNamesSay? (.ref a) u = none := by
    unfold stdlibNamesSay?
    rfl
  simp only [hnone]
  refine wpAny_bind (wpAny_bind (J.type.here ((PySem.W.looks_findIn I.kIn hc.it).here ?_)))
  show wpAny _ _ (if (some (Value.ref fc) == some Value.none) = true then _ else _) _ _ _
  rw [if_neg (by exact Bool.false_ne_true)]
  refine wpAny_bind (m := callSpecialUnlessNone? (.ref a) "__contains__" [u] _) ?_
  unfold callSpecialUnlessNone?
  refine wpAny_bind (wpAny_bind (J.type.here ((PySem.W.looks_findIn I.kIn hc.it).here ?_)))
  refine wpAny_holding (wpAny_bind ((PySem.W.bind_fn I.kIn _ hc.lt).here ?_))
  show wpAny _ _ (if (Value.ref fc == Value.none) = true then _ else _) _ _ _
  rw [if_neg (by exact Bool.false_ne_true)]
  refine wpAny_bind (wpAny_mono (own_call2 (Ex := Ex) sb F b I (x := V.ref a) (show RelV (V.ref a) (Value.ref a) from rfl) rx hsp) (fun v s' hv => ?_) fun _ _ z => z)
  obtain ⟨w', H', I', r, k, rfl, q⟩ := hv
  cases r
  refine wpAny_pure ?_
  exact wpAny_truthy_bool (hq _ _ _ I' q)
theorem op_inOwn {fd : FuncData} {ps : List Str} {sp : Sp} (hc : InC X.K C fc) (F : FnOk X.prog X.w X.K X.mg X.base CX0 n fc fd ps sp) (b : Binds X.K fd ps []) (hr : Room n X.A) : OpR X (compareOp .In) (rInOwn C sp false) := by
  intro pins s σ H x y v u Q I rx ry h
  obtain ⟨a, dx, fs, rfl, ha, hsp⟩ := h
  obtain rfl : u = Value.ref a := ry
  show wpAny _ _ (do return Value.bool (← contains (.ref a) v)) _ _ s
  refine wpAny_bind (own_contains (Q := fun b H' => Q (.bl b) H') ⟨hr, rfl⟩ hc F b I ha rx hsp fun b s' H' I' q => ?_)
  exact wpAny_pure ⟨.bl b, H', I', rfl, q⟩
theorem op_ninOwn {fd : FuncData} {ps : List Str} {sp : Sp} (hc : InC X.K C fc) (F : FnOk X.prog X.w X.K X.mg X.base CX0 n fc fd ps sp) (b : Binds X.K fd ps []) (hr : Room n X.A) : OpR X (compareOp .NotIn) (rInOwn C sp true) := by
  intro pins s σ H x y v u Q I rx ry h
  obtain ⟨a, dx, fs, rfl, ha, hsp⟩ := h
  obtain rfl : u = Value.ref a := ry
  show wpAny _ _ (do return Value.bool (!(← contains (.ref a) v))) _ _ s
  refine wpAny_bind (own_contains (Q := fun b H' => Q (.bl (!b)) H') ⟨hr, rfl⟩ hc F b I ha rx hsp fun b s' H' I' q => ?_)
  exact wpAny_pure ⟨.bl (!b), H', I', rfl, q⟩
end
end OWN
namespace OWN
open PySem PySem.Spec PyProof.Rows L2
theorem keep_all {a n : Nat} (f : Nat → Bool) (hf : ∀ k, f k = decide (a ≤ k ∧ k < n)) : ∀ (xs : List Value) (j : Nat), j + xs.length = n → (xs.zipIdx j).filterMap (fun (x, k) => if f k then none else some x) = xs.take (a - j)
  | [], j, _ => by simp
  | x :: xs, j, h => by
    rw [List.zipIdx_cons, List.filterMap_cons]
    have ih := keep_all f hf xs (j + 1) (by rw [List.length_cons] at h; omega)
    simp only [hf j]
    by_cases e : a ≤ j
    · have e1 : decide (a ≤ j ∧ j < n) = true := decide_eq_true ⟨e, by rw [List.length_cons] at h; omega⟩
      rw [e1]
      simp only [if_true]
      rw [ih, show a - j = 0 by omega, show a - (j + 1) = 0 by omega]
      rfl
    · have e1 : decide (a ≤ j ∧ j < n) = false := decide_eq_false (by omega)
      rw [e1]
      simp only [Bool.false_eq_true, if_false]
      rw [ih, show a - j = (a - (j + 1)) + 1 by omega]
      rfl
theorem sel_iff (a n k : Nat) : (if (1 : Int) > 0 then decide ((a : Int) ≤ (k : Int)) && decide ((k : Int) < (n : Int)) && (((k : Int) - (a : Int)) % 1 == 0) else false) = decide (a ≤ k ∧ k < n) := by
  rw [if_pos (by decide)]
  have e : (((k : Int) - (a : Int)) % 1 == 0) = true := by rw [Int.emod_one]; rfl
  rw [e, Bool.and_true]
  by_cases h : a ≤ k ∧ k < n
  · rw [decide_eq_true h, decide_eq_true (show (a : Int) ≤ k by omega), decide_eq_true (show (k : Int) < n by omega)]
    rfl
  · rw [decide_eq_false h]
    by_cases h1 : a ≤ k
    · rw [decide_eq_true (show (a : Int) ≤ k by omega), decide_eq_false (show ¬ (k : Int) < n by omega)]
      rfl
    · rw [decide_eq_false (show ¬ (a : Int) ≤ k by omega)]
      rfl
theorem bounds_from {a n : Nat} (ha : a ≤ n) : sliceBounds (some (a : Int)) none none n = ((a : Int), (n : Int), 1) := by
  simp only [sliceBounds, Option.getD_none]
  have h1 : ¬ ((a : Int) < 0) := by omega
  simp only [h1, if_false, show (1 : Int) > 0 by decide, if_true]
  congr 1
  omega
section
variable {prog : Program} {w : World} {A : Around} {E : Value → Shared → Prop} {s : Shared}
set_option maxRecDepth 100000 in
/-- del xs[a:] -/
theorem delItem_from {l sl : Addr} {items : List Value} {n : Nat} {vl vu : Value} {a : Nat} {Q : Unit → Shared → Prop}
    (e : s.heap.get? l = some { cls := .type "list", data := .seq items.toArray n }) (hs : s.heap.IsSliceOf sl vl vu .none) (pl : IsPart vl (some (a : Int))) (pu : IsPart vu none) (ha : a ≤ items.length)
    (hsz : items.length ≤ sizeLine) (h : ∀ f : Array Value → Array Value, f items.toArray = (items.take a).toArray → Q () { s with heap := s.heap.update l (Obj.mapSeq f) }) :
    wpAny (model prog w) A (delItem (.ref l) (.ref sl)) Q E s := by
  have hl : s.heap.IsList l items.toArray := PySem.IsL.isList e
  obtain ⟨os, hos, hcs, hds⟩ := id hs
  have hTs : s.TypeIs (.ref sl) "slice" := ⟨os, hos, hcs⟩
  have hstep : ¬ ((rawPart none == rawInt 0) = true) := Bool.false_ne_true
  unfold delItem
  refine wpAny_holding ?_
  refine wpAny_bind (wpAny_sequenceKey hl.typeIs (by decide) ?_)
  refine wpAny_bind (wpAny_callSpecial?_slot (name := Str.ofString "__delitem__") hl.typeIs PySem.F.slot_list_delitem
    (wpAny_call_entry PySem.F.slot_list_delitem hl.typeIs PySem.F.entry_list_delitem ?_ (PySem.F.args_list_delitem_2 _ _)))
  show wpAny _ _ (Builtin.List.listSubscript? (.ref sl) >>= _) _ _ s
  refine wpAny_bind ?_
  unfold Builtin.List.listSubscript?
  refine wpAny_bind (wpAny_specialOf hTs slice_no_index ?_)
  simp only [Option.isNone_none, if_true]
  refine wpAny_pure ?_
  show wpAny _ _ (typeOf (.ref sl) >>= _) _ _ s
  refine wpAny_bind (wpAny_typeOf hTs ?_)
  first
    | rw [if_neg (by decide)]
    | refine PySem.W.KFB.if_not (by decide) ?_
  rw [listSliceParts_eq]
  refine wpAny_bind (wpAny_bind (wpAny_field hos hds (x := .none) rfl (wpAny_bind (wpAny_listPart .none ?_))))
  rw [if_neg hstep]
  refine wpAny_bind (wpAny_field hos hds (x := vl) rfl (wpAny_bind (wpAny_listPart pl ?_)))
  refine wpAny_bind (wpAny_field hos hds (x := vu) rfl (wpAny_bind (wpAny_listPart pu (wpAny_pure ?_))))
  unfold Builtin.List.listItems
  refine wpAny_bind (wpAny_bind (wpAny_seqItems e rfl (wpAny_pure ?_)))
  have hb := bounds_from (a := a) (n := items.toArray.size) (by rw [List.size_toArray]; exact ha)
  refine wpAny_bind (wpAny_of_eq ((sliceIndices_raw (some (a : Int)) none none items.toArray.size (by simp)).trans (congrArg (pure : Int × Int × Int → Sem (Int × Int × Int)) hb)) ?_)
  refine wpAny_bind (wpAny_rule ?_)
  have hk := fun (f : Nat → Bool) hf => keep_all (a := a) (n := items.length) f hf items 0 (by simp)
  have key : ∀ (f : Array Value → Array Value) (g : List Value) (R : _ → Shared → Prop), f items.toArray = (items.take a).toArray → wpAny (model prog w) A.in1 (ret Value.none) R E { s with heap := s.heap.update l (Obj.mapSeq f) } → wpAny (model prog w) A.in1 (Builtin.List.listUpdate (.ref l) f >>= fun _ => letGo g >>= fun _ => ret .none) R E s := by
    intro f g R hf hr
    refine wpAny_bind (wpAny_updateSeq (hz := by rw [List.size_toArray]; exact hsz) (_hz' := by rw [hf, List.size_toArray, List.length_take]; omega) e rfl ?_)
    exact wpAny_bind (wpAny_letGo hr)
  have hf : (fun xs : Array Value => (List.filterMap _ (xs.toList.zipIdx)).toArray) items.toArray = (items.take a).toArray := congrArg List.toArray (hk _ fun k => sel_iff a items.length k)
  exact key _ _ _ hf (wpAny_pure ⟨.none, rfl, wpAny_pure (h _ hf)⟩)
end
end OWN
namespace OWN
open PySem PySem.Spec PyProof.Rows L2
section
variable {X : Cx}
theorem del_from {pins : List (Addr × Obj)} {s : Shared} {σ : L2.St} {H : Hp} {l sl : Addr} {xs : List V} {a : Int} {vl vu : Value} {Q : Unit → Shared → Prop} (I : Inv X pins σ H s) (hH : H l = some (.lst xs)) (hs : s.heap.IsSliceOf sl vl vu .none) (pl : IsPart vl (some a)) (pu : IsPart vu none) (h0 : 0 ≤ a) (ha : a ≤ xs.length)
    (h : ∀ s', Inv X pins σ (upd H l (.lst (xs.take a.toNat))) s' → Q () s') : wpAny (model X.prog X.w) X.A (delItem (.ref l) (.ref sl)) Q X.xe s := by
  obtain ⟨z, its, n, r, hl, e⟩ := I.lstM hH
  obtain ⟨a', rfl⟩ := Int.eq_ofNat_of_zero_le h0
  simp only [Int.toNat_natCast] at h
  refine delItem_from (a := a') e hs pl pu (by omega) (by omega) fun f hf => h _ ?_
  exact I.lset (its' := its.take a') (t' := s.toks) hH e hf (r.take _) (Nat.le_trans (by rw [List.length_take]; omega) z)
/-- del xs[a:], ys[b:], .. -/
def tDels : List (TE × TE) → L2.St → Hp → (Hp → Prop) → Prop
  | [], _, H, Q => Q H
  | (to, tl) :: r, σ, H, Q => to σ H fun x H1 => tl σ H1 fun y H2 => ∃ (l : Addr) (xs : List V) (i : Int), x = .ref l ∧ y = .int i ∧ H2 l = some (.lst xs) ∧ 0 ≤ i ∧ i ≤ xs.length ∧ tDels r σ (upd H2 l (.lst (xs.take i.toNat))) Q
def sDels (ts : List (TE × TE)) : TS := fun D σ H => tDels ts σ H fun H' => D.nx σ H'
structure PDs (X : Cx) (targets : List Expr) (ts : List (TE × TE)) : Prop where
  run : ∀ (pins : List (Addr × Obj)) (s : Shared) (σ : L2.St) (H : Hp) (Q : Hp → Prop), Inv X pins σ H s → tDels ts σ H Q → wpAny (model X.prog X.w) X.A (deleteEach targets X.env) (fun _ s' => ∃ H', Inv X pins σ H' s' ∧ Q H') X.xe s
theorem pds_nil : PDs X [] [] := ⟨fun pins s σ H Q I h => wpAny_deleteEach_nil ⟨H, I, h⟩⟩
theorem pds_cons {o lo : Expr} {to tl : TE} {p2 tpos : Pos} {rest : List Expr} {ts : List (TE × TE)} (ho : PE X o to) (hl : PE X lo tl) (hr : PDs X rest ts) : PDs X (.Subscript o (.Slice (some lo) none none p2) tpos :: rest) ((to, tl) :: ts) := by
  refine ⟨fun pins s σ H Q I h => ?_⟩
  refine wpAny_deleteEach_cons (wpAny_delete_Subscript (thn (ho.run pins s σ H _ I h) fun u s1 ⟨x, H1, I1, rx, q1⟩ => ?_))
  refine wpAny_Slice ?_
  rw [evalPart_some]
  refine thn (hl.run pins s1 σ H1 _ I1 q1) fun vl s2 ⟨y, H2, I2, ry, l, xs, i, ex, ey, hH, h0, ha, q2⟩ => ?_
  subst ex
  subst ey
  obtain ⟨t, rfl⟩ := (show ∃ t, vl = Value.int i t from ry)
  cases (show u = Value.ref l from rx)
  rw [evalPart_none]
  refine wpAny_pure ?_
  refine wpAny_pure ?_
  have I4 : Inv X pins σ H2 { s2 with heap := s2.heap.push { cls := .type "slice", data := .fields #[Value.int i t, .none, .none] } } := I2.kept (t' := s2.toks) fun b ob q => Heap.get?_push_of_some _ q
  exact del_from I4 hH (Heap.IsSliceOf.new ..) (.int i t) .none h0 ha fun s5 I5 => hr.run pins s5 σ _ Q I5 q2
theorem ps_dels {targets : List Expr} {ts : List (TE × TE)} {pos : Pos} (h : PDs X targets ts) : PS X (.Delete targets pos) (sDels ts) := ⟨fun pins s σ H D I q => wpAny_Delete (thn (h.run pins s σ H _ I q) fun _ s' ⟨H', I', q'⟩ => ⟨σ, H', I', q'⟩)⟩
end
end OWN

namespace MR
open PySem PySem.Spec
/-! the rows of a trail: a literal and its reason; levels, depth and starts follow -/
abbrev TRow := Int × Option Int
theorem snoc_ind {α : Type} {P : List α → Prop} (h0 : P []) (h1 : ∀ xs x, P xs → P (xs ++ [x])) (xs : List α) : P xs := by
  have h : ∀ ys : List α, P ys.reverse := by
    intro ys
    induction ys with
    | nil => exact h0
    | cons y ys ih =>
      rw [List.reverse_cons]
      exact h1 _ _ ih
  have := h xs.reverse
  rwa [List.reverse_reverse] at this
def dep (rs : List TRow) : Nat := rs.countP fun r => r.2.isNone
def lev (rs : List TRow) (i : Nat) : Nat := dep (rs.take (i + 1))
def levs (rs : List TRow) : List Nat := (List.range rs.length).map (lev rs)
def starts (rs : List TRow) : List Nat := (List.range rs.length).filter fun i => match rs[i]? with
  | some r => r.2.isNone
  | none => false
theorem dep_snoc (rs : List TRow) (r : TRow) : dep (rs ++ [r]) = dep rs + if r.2.isNone then 1 else 0 := by
  unfold dep
  rw [List.countP_append, List.countP_singleton]
theorem lev_app {rs : List TRow} {r : TRow} {i : Nat} (h : i < rs.length) : lev (rs ++ [r]) i = lev rs i := by
  unfold lev
  rw [List.take_append_of_le_length (by omega)]
theorem lev_last (rs : List TRow) (r : TRow) : lev (rs ++ [r]) rs.length = dep (rs ++ [r]) := by
  unfold lev
  rw [List.take_of_length_le (by rw [List.length_append]; exact Nat.le_refl _)]
theorem levs_snoc (rs : List TRow) (r : TRow) : levs (rs ++ [r]) = levs rs ++ [dep (rs ++ [r])] := by
  unfold levs
  rw [List.length_append, List.length_singleton, List.range_succ, List.map_append]
  congr 1
  · exact List.map_congr_left fun i hi => lev_app (List.mem_range.mp hi)
  · simp only [List.map_cons, List.map_nil, lev_last]
theorem starts_snoc (rs : List TRow) (r : TRow) : starts (rs ++ [r]) = starts rs ++ if r.2.isNone then [rs.length] else [] := by
  unfold starts
  rw [List.length_append, List.length_singleton, List.range_succ, List.filter_append]
  congr 1
  · refine List.filter_congr fun i hi => ?_
    have h := List.mem_range.mp hi
    rw [List.getElem?_append_left h]
  · by_cases h : r.2.isNone = true
    · rw [if_pos h]
      simp [h]
    · rw [if_neg h]
      simp at h
      simp [h]
theorem starts_len (rs : List TRow) : (starts rs).length = dep rs := by
  induction rs using snoc_ind with
  | h0 => rfl
  | h1 rs r ih =>
    rw [starts_snoc, dep_snoc, List.length_append, ih]
    split <;> rfl
theorem starts_lt {rs : List TRow} {i : Nat} (h : i ∈ starts rs) : i < rs.length := by
  unfold starts at h
  exact List.mem_range.mp (List.mem_filter.mp h).1
theorem levs_len (rs : List TRow) : (levs rs).length = rs.length := by unfold levs; rw [List.length_map, List.length_range]
/-- the edges: 0, the starts, the length -/
def ed (rs : List TRow) : Nat → Nat
  | 0 => 0
  | k + 1 => ((starts rs)[k]?).getD rs.length
theorem ed_succ (rs : List TRow) (k : Nat) : ed rs (k + 1) = ((starts rs)[k]?).getD rs.length := rfl
theorem ed_lt {rs : List TRow} {k : Nat} (h : k < dep rs) : ∃ s, (starts rs)[k]? = some s ∧ ed rs (k + 1) = s ∧ s < rs.length := by
  have hk : k < (starts rs).length := by rw [starts_len]; exact h
  refine ⟨(starts rs)[k], List.getElem?_eq_getElem hk, ?_, starts_lt (List.getElem_mem hk)⟩
  rw [ed_succ, List.getElem?_eq_getElem hk]
  rfl
theorem ed_ge {rs : List TRow} {k : Nat} (h : dep rs ≤ k) : ed rs (k + 1) = rs.length := by
  have hk : (starts rs)[k]? = none := List.getElem?_eq_none (by rw [starts_len]; exact h)
  rw [ed_succ, hk]
  rfl
theorem dep_take_le (rs : List TRow) (n : Nat) : dep (rs.take n) ≤ dep rs := by
  have h : dep rs = dep (rs.take n) + dep (rs.drop n) := by
    unfold dep
    rw [← List.countP_append, List.take_append_drop]
  omega
/-- the levels up to k are those ahead of the edge behind k -/
theorem key (rs : List TRow) : ∀ k i, i < rs.length → (lev rs i ≤ k ↔ i < ed rs (k + 1)) := by
  induction rs using snoc_ind with
  | h0 => intro k i hi; simp at hi
  | h1 rs r ih =>
    intro k i hi
    rw [List.length_append, List.length_singleton] at hi
    have hd := dep_snoc rs r
    have hs := starts_snoc rs r
    by_cases hk : dep (rs ++ [r]) ≤ k
    · rw [ed_ge hk, List.length_append, List.length_singleton]
      have : lev (rs ++ [r]) i ≤ dep (rs ++ [r]) := dep_take_le _ _
      omega
    · by_cases hk2 : k < dep rs
      · obtain ⟨s, h1, h2, h3⟩ := ed_lt hk2
        have e : ed (rs ++ [r]) (k + 1) = ed rs (k + 1) := by
          rw [h2, ed_succ, hs, List.getElem?_append_left (by rw [starts_len]; exact hk2), h1]
          rfl
        rw [e]
        by_cases hi2 : i < rs.length
        · rw [lev_app hi2]
          exact ih k i hi2
        · obtain rfl : i = rs.length := by omega
          rw [lev_last, h2]
          omega
      · by_cases hn : r.2.isNone = true
        · rw [if_pos hn] at hd hs
          obtain rfl : k = dep rs := by omega
          have e : ed (rs ++ [r]) (dep rs + 1) = rs.length := by
            rw [ed_succ, hs, List.getElem?_append_right (by rw [starts_len]; exact Nat.le_refl _), starts_len, Nat.sub_self]
            rfl
          rw [e]
          by_cases hi2 : i < rs.length
          · rw [lev_app hi2]
            have : lev rs i ≤ dep rs := dep_take_le _ _
            omega
          · obtain rfl : i = rs.length := by omega
            rw [lev_last, hd]
            omega
        · rw [if_neg hn] at hd
          omega
/-- a run of l's from a to b -/
theorem count_run {l : Nat} : ∀ (xs : List Nat) (a b : Nat), a ≤ b → b ≤ xs.length → (∀ i x, xs[i]? = some x → (x = l ↔ a ≤ i ∧ i < b)) → xs.count l = b - a := by
  intro xs
  induction xs using snoc_ind with
  | h0 => intro a b h1 h2 _; simp at h2; subst h2; simp
  | h1 xs x ih =>
    intro a b h1 h2 h
    rw [List.length_append, List.length_singleton] at h2
    rw [List.count_append, List.count_singleton]
    have hx := h xs.length x (by simp)
    have hr : ∀ i y, xs[i]? = some y → (y = l ↔ a ≤ i ∧ i < b) := fun i y e => h i y (by rw [List.getElem?_append_left (List.getElem?_eq_some_iff.mp e).1]; exact e)
    by_cases hb : b ≤ xs.length
    · rw [ih a b h1 hb hr]
      have : ¬ x = l := fun e => by have := hx.mp e; omega
      have e : (x == l) = false := beq_eq_false_iff_ne.mpr this
      rw [e]
      rfl
    · obtain rfl : b = xs.length + 1 := by omega
      by_cases ha : a ≤ xs.length
      · have e : (x == l) = true := beq_iff_eq.mpr (hx.mpr ⟨ha, by omega⟩)
        rw [e, ih a xs.length ha (Nat.le_refl _) fun i y e => by
          have hi := (List.getElem?_eq_some_iff.mp e).1
          rw [hr i y e]
          omega]
        simp only [if_true]
        omega
      · have : ¬ x = l := fun e => by have := hx.mp e; omega
        have e : (x == l) = false := beq_eq_false_iff_ne.mpr this
        rw [e]
        have h0 : xs.count l = 0 := by
          refine List.count_eq_zero.mpr fun hm => ?_
          obtain ⟨i, hi⟩ := List.mem_iff_getElem?.mp hm
          have h3 := (hr i l hi).mp rfl
          have h4 := (List.getElem?_eq_some_iff.mp hi).1
          omega
        rw [h0]
        simp
        omega
theorem ed_le (rs : List TRow) (k : Nat) : ed rs k ≤ rs.length := by
  cases k with
  | zero => exact Nat.zero_le _
  | succ k =>
    by_cases h : k < dep rs
    · obtain ⟨s, _, h2, h3⟩ := ed_lt h
      omega
    · rw [ed_ge (by omega)]
      exact Nat.le_refl _
theorem levs_at {rs : List TRow} {i x : Nat} (h : (levs rs)[i]? = some x) : i < rs.length ∧ x = lev rs i := by
  have hi := (List.getElem?_eq_some_iff.mp h).1
  rw [levs_len] at hi
  unfold levs at h
  rw [List.getElem?_map, List.getElem?_range hi] at h
  exact ⟨hi, (Option.some.inj h).symm⟩
theorem ed_mono (rs : List TRow) (k : Nat) : ed rs k ≤ ed rs (k + 1) := by
  cases k with
  | zero => exact Nat.zero_le _
  | succ k =>
    rcases Nat.lt_or_ge (ed rs (k + 1 + 1)) (ed rs (k + 1)) with h | h
    · exfalso
      have hi : ed rs (k + 1 + 1) < rs.length := Nat.lt_of_lt_of_le h (ed_le rs _)
      have h1 := (key rs k _ hi).mpr h
      have h2 := (key rs (k + 1) _ hi).mp (by omega)
      omega
    · exact h
/-- how many rows stand at a level -/
theorem count_lev (rs : List TRow) (k : Nat) : (levs rs).count k = ed rs (k + 1) - ed rs k := by
  refine count_run _ _ _ (ed_mono rs k) (by rw [levs_len]; exact ed_le rs _) fun i x h => ?_
  obtain ⟨hi, rfl⟩ := levs_at h
  have h1 := key rs k i hi
  cases k with
  | zero =>
    show _ ↔ 0 ≤ i ∧ _
    omega
  | succ k =>
    have h2 := key rs k i hi
    omega
/-- what is left behind a step back -/
theorem take_levs (rs : List TRow) (n : Nat) : levs (rs.take n) = (levs rs).take n := by
  refine List.ext_getElem? fun i => ?_
  rw [List.getElem?_take]
  by_cases h : i < n
  · rw [if_pos h]
    unfold levs
    rw [List.getElem?_map, List.getElem?_map, List.length_take]
    by_cases hi : i < rs.length
    · rw [List.getElem?_range (by omega), List.getElem?_range hi]
      simp only [Option.map_some]
      unfold lev
      rw [List.take_take, Nat.min_eq_left (by omega)]
    · rw [List.getElem?_eq_none (by rw [List.length_range]; omega), List.getElem?_eq_none (by rw [List.length_range]; omega)]
      rfl
  · rw [if_neg h, List.getElem?_eq_none (by rw [levs_len, List.length_take]; omega)]
theorem dep_back {rs : List TRow} {k : Nat} (h : k < dep rs) : dep (rs.take (ed rs (k + 1))) = k := by
  obtain ⟨s, h1, h2, h3⟩ := ed_lt h
  rw [h2]
  have ha := key rs k s h3
  rw [h2] at ha
  have hb : lev rs s = dep (rs.take s) + if (rs[s]'h3).2.isNone then 1 else 0 := by
    unfold lev
    rw [List.take_add_one, List.getElem?_eq_getElem h3]
    exact dep_snoc _ _
  have hc : ¬ lev rs s ≤ k := fun z => by have := ha.mp z; omega
  have hle : dep (rs.take s) ≤ k := by
    by_cases h0 : s = 0
    · subst h0
      exact Nat.zero_le _
    · have hp := (key rs k (s - 1) (by omega)).mpr (by rw [h2]; omega)
      unfold lev at hp
      rw [show s - 1 + 1 = s by omega] at hp
      exact hp
  split at hb <;> omega
theorem starts_back (rs : List TRow) : ∀ n, n ≤ rs.length → starts (rs.take n) = (starts rs).filter (fun i => decide (i < n)) := by
  induction rs using snoc_ind with
  | h0 => intro n _; simp [starts]
  | h1 rs r ih =>
    intro n hn
    rw [List.length_append, List.length_singleton] at hn
    rw [starts_snoc, List.filter_append]
    by_cases h : n ≤ rs.length
    · rw [List.take_append_of_le_length h, ih n h]
      have : List.filter (fun i => decide (i < n)) (if r.2.isNone = true then [rs.length] else []) = [] := by
        split
        · simp [h]
        · rfl
      rw [this, List.append_nil]
    · have e : n = rs.length + 1 := by omega
      rw [List.take_of_length_le (by rw [List.length_append, List.length_singleton]; omega), starts_snoc]
      congr 1
      · refine (List.filter_eq_self.mpr fun i hi => ?_).symm
        have := starts_lt hi
        exact decide_eq_true (by omega)
      · split
        · simp [e]
        · rfl
theorem starts_asc (rs : List TRow) : (starts rs).Pairwise (· < ·) := List.pairwise_lt_range.filter _
theorem take_asc : ∀ {xs : List Nat} {k s : Nat}, xs.Pairwise (· < ·) → xs[k]? = some s → xs.filter (fun i => decide (i < s)) = xs.take k
  | [], k, s, _, h => by simp at h
  | x :: xs, 0, s, hp, h => by
    obtain rfl := Option.some.inj h
    rw [List.pairwise_cons] at hp
    rw [List.take_zero, List.filter_eq_nil_iff]
    intro i hi
    rcases List.mem_cons.mp hi with e | m
    · rw [e]; simp
    · have := hp.1 i m
      simp
      omega
  | x :: xs, k + 1, s, hp, h => by
    rw [List.pairwise_cons] at hp
    rw [List.getElem?_cons_succ] at h
    have hx : x < s := hp.1 s (List.mem_of_getElem? h)
    rw [List.filter_cons, if_pos (decide_eq_true hx), List.take_succ_cons, take_asc hp.2 h]
theorem starts_take {rs : List TRow} {k : Nat} (h : k < dep rs) : starts (rs.take (ed rs (k + 1))) = (starts rs).take k := by
  obtain ⟨s, h1, h2, h3⟩ := ed_lt h
  rw [h2, starts_back rs s (Nat.le_of_lt h3), take_asc (starts_asc rs) h1]
/-- the rows of levels up to k, as the law keeps them -/
theorem keep_take {α : Type} (f : α → Bool) : ∀ (xs : List α) (n : Nat), n ≤ xs.length → (∀ i x, xs[i]? = some x → (f x = true ↔ i < n)) → xs.filter f = xs.take n := by
  intro xs
  induction xs with
  | nil => intro n hn _; simp at hn; subst hn; rfl
  | cons x xs ih =>
    intro n hn h
    cases n with
    | zero =>
      rw [List.take_zero, List.filter_eq_nil_iff]
      intro y hy hf
      obtain ⟨i, hi⟩ := List.mem_iff_getElem?.mp hy
      have := (h i y hi).mp hf
      omega
    | succ n =>
      have hx : f x = true := (h 0 x rfl).mpr (by omega)
      rw [List.filter_cons, if_pos hx, List.take_succ_cons, ih n (by rw [List.length_cons] at hn; omega) fun i y e => by
        exact (h (i + 1) y (by rw [List.getElem?_cons_succ]; exact e)).trans ⟨fun z => by omega, fun z => by omega⟩]
end MR

namespace X2
open PySem PySem.Spec PyProof.Rows L2
/-! exceptions of own classes over an own base, with an __init__ that calls the base's and keeps one field -/
/-- what the text leaves of such a class C, its __init__ at fI, its field n -/
structure XO (K : PySem.W.Frag) (C fI : Addr) (n : Str) : Prop where
  ox : OexC K C
  xc : ExcC K C
  no : PySem.W.findIn K (.ref C) n = some none
  ii : PySem.W.findIn K (.ref C) "__init__" = some (some (.ref fI))
  ti : PySem.W.typeIn K (.ref fI) = some (.type "function")
theorem XO.xf {K : PySem.W.Frag} {C fI : Addr} {n : Str} (T : XO K C fI n) : XfC K C := ⟨T.xc.hg, T.xc.hk, T.xc.hs, T.xc.hd⟩
/-- the base B, whose __init__ is ValueError's -/
structure XB (K : PySem.W.Frag) (B : Addr) : Prop where
  rd : PySem.W.readsIn K B (.type "type") = true
  ga : PySem.W.specialIn K (.ref B) "__getattribute__" = some (some (.builtin "type.__getattribute__"))
  vi : PySem.W.findCls K (.ref B) (.type "type") "__init__" = some (.val (.builtin "ValueError.__init__"))
section
variable {X : Cx} {e : Expr} {es : List Expr} {ta : TA} {p1 p2 pos : Pos} {x : Str} {B : Addr}
/-- B.__init__(self, ..) -/
theorem pe_binit {pl : Sem Bool} (hg : Gl X x) (hm : X.mg x = some (.ref B)) (T : XB X.K B) (ha : PA X (e :: es) ta)
    (hdb : (x == ("__debug__" : Str)) = false := by decide)
    (hc : eval (.Call (.Attribute (.Name x p1) "__init__" p2) (e :: es) [] pos) X.env = (do
      let bv ← eval (.Name x p1) X.env
      standAt p2.atName
      let (fn, fst) ← holding [bv] (getMethod bv "__init__" pl)
      callWith pos fn fst (backTo pos (starEach (e :: es) X.env)) (backToKw pos (keywordEach [] X.env))) := by rfl)
    (he : starEach (e :: es) X.env = (false, eval e X.env) :: starEach es X.env := by rfl) (hpl : (backTo pos (starEach es X.env)).any (·.1) = false := by rfl) :
    PE X (.Call (.Attribute (.Name x p1) "__init__" p2) (e :: es) [] pos) (tVeI X.K ta) := by
  refine ⟨fun pins s σ H Q I h => ?_⟩
  refine PySem.W.methodCall_KW (ld_glob I hg hm ?_ hdb) hc
  refine PySem.W.method_cls I.kIn T.ga (PySem.W.cls_value I.kIn T.rd T.vi (by decide +kernel) ?_)
  show wpAny _ _ (callWith pos (Value.builtin "ValueError.__init__") [] (backTo pos (starEach (e :: es) X.env)) []) _ _ _
  refine PyProof.Rows.callWith_method1 (thn (ha.run pos pins _ σ H _ (I.tok _) h) fun us s1 hh => ?_) he hpl
  obtain ⟨vs, H1, I1, r1, a, C, ws, ev, hl, TC, ea, q⟩ := hh
  subst ev
  cases r1 with
  | @cons _ u0 _ ur ra rw' =>
    obtain rfl : u0 = Value.ref a := ra
    have hz : ur.length ≤ sizeLine := by
      rw [← Paired.length rw', sizeLine_eq]
      omega
    exact oinit_ok TC I1 ea hz fun s' J => ⟨.non, H1, J, rfl, q⟩
end
/-- isinstance(e, c), e the exception that the suite holds, with or without a dict -/
def hasD (H : Hp) (d : Option Addr) : Prop := d = none ∨ ∃ dd fs, d = some dd ∧ H dd = some (.xd fs)
def rIsX1 (K : PySem.W.Frag) (a : Addr) (cls : Value) (d : Option Addr) : List V → Hp → VK → Prop := fun xs H Q => ∃ (D : Addr) (c : V) (cv : Value) (b : Bool), cls = .ref D ∧ hasD H d ∧ ExcC K D ∧ xs = [.ref a, c] ∧ ClsV c cv ∧ PySem.W.kitOne K (.ref D) cv = some b ∧ Q (.bl b) H
def rIsXT (K : PySem.W.Frag) (a : Addr) (cls : Value) (d : Option Addr) : List V → Hp → VK → Prop := fun xs H Q => ∃ (D tp : Addr) (cs : List V) (us : List Value) (b : Bool), cls = .ref D ∧ hasD H d ∧ ExcC K D ∧ xs = [.ref a, .ref tp] ∧ H tp = some (.tup cs) ∧ Paired ClsV cs us ∧ PySem.W.kitAny K (.ref D) us = some b ∧ Q (.bl b) H
theorem isx_at {X : Cx} {pins : List (Addr × Obj)} {σ : L2.St} {H : Hp} {s : Shared} {a D : Addr} {d : Option Addr} {oe : Obj} (I : Inv X pins σ H s) (hz : Zc (.ref D) d oe) (hf : ∃ vs, oe.data = .fields vs) (hget : s.heap.get? a = some oe) (hd : hasD H d) : ∃ od, PySem.W.InstAt s.heap a oe D od := by
  obtain ⟨vs, hv⟩ := hf
  rcases hd with e | ⟨dd, fs, e, ha⟩
  · subst e
    refine ⟨none, hget, hz.1, by unfold PySem.W.notCls; rw [hv] <;> rfl, ?_⟩
    rw [hz.2]
    trivial
  · subst e
    have ok : ObjOk X.prog X.w H s.heap dd (.xd fs) := I.hok dd _ ha
    obtain ⟨mA, hns, hr⟩ := ok
    obtain ⟨od, ho, hl⟩ := lookIn_ns hns
    refine ⟨some od, hget, hz.1, by unfold PySem.W.notCls; rw [hv] <;> rfl, ?_⟩
    rw [hz.2]
    exact ho
theorem xc_cls {K : PySem.W.Frag} {D : Addr} (C : ExcC K D) : (PySem.W.clsIn K D).isSome = true := by
  obtain ⟨cd, hc, _⟩ := PySem.W.any_some C.hd
  rw [hc]
  rfl
theorem call_isX1 {X : Cx} {a : Addr} {cls : Value} {d : Option Addr} {oe : Obj} {pn : List (Addr × Obj)} (hz : Zc cls d oe) (hf : ∃ vs, oe.data = .fields vs) : CallR (X.suite a ((a, oe) :: pn)) (.builtin "isinstance") (rIsX1 X.K a cls d) := by
  intro pins s σ H xs us Q I r h
  obtain ⟨D, c, cv, b, rfl, hd, C, rfl, k, e, q⟩ := h
  obtain ⟨u1, u2, rfl, r1, r2⟩ := vals2 r
  cases (show u1 = Value.ref a from r1)
  have e2 := k.eq r2
  subst e2
  obtain ⟨hget, _⟩ := I.pin (a, oe) (List.mem_append.mpr (.inl List.mem_cons_self))
  obtain ⟨od, J⟩ := isx_at I hz hf hget hd
  exact PySem.W.kia_one (PySem.W.kitx_exc (xc_cls C) C.hg C.hk C.hs C.ha C.hn C.ht C.hm) I.kIn J e (fun z => nomatch z) fun tk => ⟨.bl b, H, I.kept (t' := tk) fun _ _ z => z, rfl, q⟩
theorem call_isXT {X : Cx} {a : Addr} {cls : Value} {d : Option Addr} {oe : Obj} {pn : List (Addr × Obj)} (hz : Zc cls d oe) (hf : ∃ vs, oe.data = .fields vs) : CallR (X.suite a ((a, oe) :: pn)) (.builtin "isinstance") (rIsXT X.K a cls d) := by
  intro pins s σ H xs us Q I r h
  obtain ⟨D, tp, cs, ws, b, rfl, hd, C, rfl, hT, k, e, q⟩ := h
  obtain ⟨u1, u2, rfl, r1, r2⟩ := vals2 r
  cases (show u1 = Value.ref a from r1)
  cases (show u2 = Value.ref tp from r2)
  obtain ⟨hget, _⟩ := I.pin (a, oe) (List.mem_append.mpr (.inl List.mem_cons_self))
  obtain ⟨_, its, rv, o, h1, h2, n, h3⟩ := (show ObjOk X.prog X.w H s.heap tp (.tup cs) from I.hok tp _ hT)
  have e3 := ClsV.all k rv
  subst e3
  obtain ⟨od, J⟩ := isx_at I hz hf hget hd
  obtain ⟨oc, od', dt, sl⟩ := o
  simp only at h2 h3
  subst h2 h3
  exact PySem.W.kia_tup (PySem.W.kitx_exc (xc_cls C) C.hg C.hk C.hs C.ha C.hn C.ht C.hm) I.kIn J h1 e (fun z => nomatch z) fun tk => ⟨.bl b, H, I.kept (t' := tk) fun _ _ z => z, rfl, q⟩
section
variable {K : PySem.W.Frag} {a D dd : Addr} {fs : List (Str × V)} {H : Hp} {Q : VK} {b : Bool}
theorem w_isX1 {c : V} {cv : Value} (C : ExcC K D) (hd : H dd = some (.xd fs)) (k : ClsV c cv) (e : PySem.W.kitOne K (.ref D) cv = some b) (q : Q (.bl b) H) : rIsX1 K a (.ref D) (some dd) [.ref a, c] H Q := ⟨D, c, cv, b, rfl, .inr ⟨dd, fs, rfl, hd⟩, C, rfl, k, e, q⟩
theorem w_isXT {tp : Addr} {cs : List V} {us : List Value} (C : ExcC K D) (hd : H dd = some (.xd fs)) (hT : H tp = some (.tup cs)) (k : Paired ClsV cs us) (e : PySem.W.kitAny K (.ref D) us = some b) (q : Q (.bl b) H) : rIsXT K a (.ref D) (some dd) [.ref a, .ref tp] H Q := ⟨D, tp, cs, us, b, rfl, .inr ⟨dd, fs, rfl, hd⟩, C, rfl, hT, k, e, q⟩
theorem w_xfv {C : Addr} {f : Str} {v : V} {σ : L2.St} {i : Nat} (hs : σ[i]? = some (some (.ref a))) (hd : H dd = some (.xd fs)) (hl : fs.lookup f = some v) (q : Q v H) : tXf a (.ref C) (some dd) C f (tVar i) σ H Q := ⟨_, hs, rfl, rfl, dd, fs, v, rfl, hd, hl, q⟩
end
/-- what C(v) leaves: a new dict with the one field -/
def InitEnd (C : Addr) (n : Str) (v : V) : Sp := fun vs H Q _ => ∃ a, vs = [.ref a, v] ∧ H a = some (exo a C none) ∧ ∀ dx, H dx = none → dx ≠ a → Q .non (upd (upd H dx (exd dx [(n, v)])) a (exo a C (some dx)))
section
variable {K : PySem.W.Frag} {σ : L2.St} {H : Hp} {Q : VK} {ta : TA} {D : Ends} {te t : TE} {ts : List TE} {acc : Str}
def rVeI (K : PySem.W.Frag) : List V → Hp → VK → Prop := fun vs H1 Q => ∃ (a C : Addr) (ws : List V), vs = .ref a :: ws ∧ ws.length ≤ 1000 ∧ OexC K C ∧ H1 a = some (exo a C none) ∧ Q .non H1
theorem w_veI (h : ta σ H fun vs H1 => rVeI K vs H1 Q) : tVeI K ta σ H Q := h
theorem use_veI {a C : Addr} {x : V} (T : OexC K C) (h : H a = some (exo a C none)) (q : Q .non H) : rVeI K [.ref a, x] H Q := ⟨a, C, [x], rfl, by simp, T, h, q⟩
theorem w_js {R : Str → Hp → Prop} (h : t σ H fun x H1 => ∃ y : Str, x = .str y ∧ (acc ++ y).length ≤ sizeLine ∧ tJs ts (acc ++ y) σ H1 R) : tJs (t :: ts) acc σ H R := h
theorem w_jn {R : Str → Hp → Prop} (h : R acc H) : tJs [] acc σ H R := h
theorem w_fmtI {i : Int} {j : Nat} (e : σ[j]? = some (some (.int i))) (hi : i.natAbs.log2 < 1920) (q : Q (.str (toString i)) H) : tFmtR (tVar j) σ H Q := ⟨_, e, .inr ⟨i, rfl, hi, q⟩⟩
theorem w_fmtS {y : Str} {j : Nat} (e : σ[j]? = some (some (.str y))) (hy : (reprText y).length ≤ sizeLine) (q : Q (.str (reprText y)) H) : tFmtR (tVar j) σ H Q := ⟨_, e, .inl ⟨y, rfl, hy, q⟩⟩
/-- self.f = e, the first and only one -/
theorem w_ost {f : Str} {to : TE} {a C : Addr} {y : V} {j k : Nat} (e1 : σ[k]? = some (some y)) (e2 : σ[j]? = some (some (.ref a))) (T : OexC K C) (no : PySem.W.findIn K (.ref C) f = some none) (h : H a = some (exo a C none)) (q : ∀ dx, H dx = none → dx ≠ a → D.nx σ (upd (upd H dx (exd dx [(f, y)])) a (exo a C (some dx)))) :
    tOst K f (tVar j) (tVar k) D σ H := ⟨y, e1, .ref a, e2, a, C, rfl, T, no, .inl ⟨h, q⟩⟩
theorem len_cat {x y : Str} {m n : Nat} (h1 : x.length ≤ m) (h2 : y.length ≤ n) : (x ++ y).length ≤ m + n := by
  have e : (x ++ y).length = x.length + y.length := by
    rw [TL.len_tl, TL.tl_append, List.length_append, ← TL.len_tl, ← TL.len_tl]
  omega
theorem len_int {i : Int} (h : i.natAbs < 10 ^ 60) : (Str.ofString (toString i)).length ≤ 61 := by
  by_cases hn : i < 0
  · have k := TL.numL_len (n := (0 - i).natAbs) (k := 60) (by decide) (by omega)
    have e : 0 - i = (((0 - i).natAbs : Nat) : Int) := by omega
    rw [PyProof.Rows.len_text_neg hn, e, TL.len_tl, TL.tl_num]
    omega
  · have k := TL.numL_len (n := i.natAbs) (k := 60) (by decide) h
    have e : i = ((i.natAbs : Nat) : Int) := by omega
    rw [e, TL.len_tl, TL.tl_num]
    omega
theorem log_int {i : Int} (h : i.natAbs < 10 ^ 60) : i.natAbs.log2 < 1920 := by
  have k : i.natAbs.log2 < 200 := PySem.Flt.log2_lt_of (by decide) (show i.natAbs < 2 ^ 200 by omega)
  omega
end
def rMk (C : Addr) (sp : Sp) : List V → Hp → XK → Prop := fun vs H1 Q => vs.length ≤ 1000 ∧ ∀ a, H1 a = none → sp (.ref a :: (vs ++ [])) (upd H1 a (exo a C none))
  (fun v H2 => v = .non ∧ ∃ (d : Addr) (fs : List (Str × V)), H2 a = some (exo a C (some d)) ∧ H2 d = some (exd d fs) ∧ H1 d = none ∧ Q (.ref C) (some d) (upd (del H2 a) d (.xd fs))) (fun _ _ _ => False)
theorem w_mkO {C : Addr} {sp : Sp} {ta : TA} {σ : L2.St} {H : Hp} {Q : XK} (h : ta σ H fun vs H1 => rMk C sp vs H1 Q) : tMkO C sp [] ta σ H Q := h
theorem use_mk {C : Addr} {n : Str} {v : V} {sp : Sp} {H1 : Hp} {Q : XK} (hsp : ∀ (vs : List V) (H : Hp) (Q : VK) (E : XK), InitEnd C n v vs H Q E → sp vs H Q E) (q : ∀ d, H1 d = none → Q (.ref C) (some d) (upd H1 d (.xd [(n, v)]))) : rMk C sp [v] H1 Q := by
  refine ⟨by simp, fun a ha => hsp _ _ _ _ ⟨a, rfl, upd_same, fun dx h1 h2 => ⟨rfl, dx, _, upd_same, by rw [upd_ne h2, upd_same], ?_, ?_⟩⟩⟩
  · rw [upd_ne h2] at h1
    exact h1
  · have h3 : H1 dx = none := by rw [upd_ne h2] at h1; exact h1
    have e : upd (del (upd (upd (upd H1 a (exo a C none)) dx (exd dx [(n, v)])) a (exo a C (some dx))) a) dx (.xd [(n, v)]) = upd H1 dx (.xd [(n, v)]) := by
      funext b
      by_cases hb : b = dx
      · rw [hb, upd_same, upd_same]
      · rw [upd_ne hb, upd_ne hb]
        by_cases hba : b = a
        · rw [hba, del_same, ha]
        · rw [del_ne hba, upd_ne hba, upd_ne hb, upd_ne hba]
    rw [e]
    exact q dx h3
end X2

namespace MW
open PySem
/-! words of digits, and the law's own walk over them -/
def dg (c : Nat) : Bool := decide (48 ≤ c) && decide (c ≤ 57)
def d1 (c : Nat) : Bool := decide (49 ≤ c) && decide (c ≤ 57)
def posW : List Nat → Bool
  | [] => false
  | c :: r => d1 c && r.all dg
def strip : List Nat → List Nat
  | [] => []
  | c :: r => if c = 45 then r else c :: r
def wholeW (l : List Nat) : Bool := decide (l = [48]) || posW (strip l)
def dv (l : List Nat) : Nat := NumText.digitsVal l
def vz (l : List Nat) : Int := if l.head? = some 45 then -(dv (strip l) : Int) else (dv (strip l) : Int)
def stp (s c : Nat) : Nat :=
  if s = 0 ∧ c = 45 then 1 else if s = 0 ∧ c = 48 then 2 else if (s = 0 ∨ s = 1) ∧ d1 c = true then 3 else if s = 3 ∧ dg c = true then 3
  else if (s = 2 ∨ s = 3) ∧ c = 47 then 4 else if s = 4 ∧ d1 c = true then 5 else if s = 5 ∧ dg c = true then 5 else 6
/-- '0123456789'.find(c) -/
def fnd (c : Nat) : Int := if dg c = true then (c : Int) - 48 else -1
def rd (s : Nat × Int × Int) (c : Nat) : Nat × Int × Int := (stp s.1 c, (if stp s.1 c = 3 then 10 * s.2.1 + fnd c else s.2.1), (if stp s.1 c = 5 then 10 * s.2.2 + fnd c else s.2.2))
theorem d1_dg {c : Nat} (h : d1 c = true) : dg c = true := by
  simp only [d1, dg, Bool.and_eq_true, decide_eq_true_eq] at *
  omega
theorem stp6 (c : Nat) : stp 6 c = 6 := by simp [stp]
theorem dead (r : List Nat) (t b : Int) : r.foldl rd (6, t, b) = (6, t, b) := by
  induction r with
  | nil => rfl
  | cons c r ih =>
    rw [List.foldl_cons]
    have e : rd (6, t, b) c = (6, t, b) := by simp [rd, stp6]
    rw [e, ih]
theorem stp3 {c : Nat} (h : dg c = true) : stp 3 c = 3 := by simp [stp, h]
theorem stp3n {c : Nat} (h : dg c = false) (h2 : c ≠ 47) : stp 3 c = 6 := by simp [stp, h, h2]
theorem stp5 {c : Nat} (h : dg c = true) : stp 5 c = 5 := by simp [stp, h]
theorem stp5n {c : Nat} (h : dg c = false) : stp 5 c = 6 := by simp [stp, h]
def fz (r : List Nat) (t : Int) : Int := r.foldl (fun a c => 10 * a + fnd c) t
theorem run3 (r : List Nat) (h47 : 47 ∉ r) : ∀ t b : Int, (r.all dg = true → r.foldl rd (3, t, b) = (3, fz r t, b)) ∧ (r.all dg = false → (r.foldl rd (3, t, b)).1 = 6) := by
  induction r with
  | nil => exact fun t b => ⟨fun _ => rfl, fun h => by simp at h⟩
  | cons c r ih =>
    intro t b
    have h2 : c ≠ 47 := fun e => h47 (by simp [e])
    have ih' := ih (fun z => h47 (List.mem_cons_of_mem _ z))
    rw [List.foldl_cons]
    cases hc : dg c with
    | true =>
      have e : rd (3, t, b) c = (3, 10 * t + fnd c, b) := by simp [rd, stp3 hc]
      rw [e]
      refine ⟨fun h => ?_, fun h => ?_⟩
      · rw [List.all_cons, hc, Bool.true_and] at h
        exact (ih' _ _).1 h
      · rw [List.all_cons, hc, Bool.true_and] at h
        exact (ih' _ _).2 h
    | false =>
      have e : rd (3, t, b) c = (6, t, b) := by simp [rd, stp3n hc h2]
      rw [e, dead]
      exact ⟨fun h => by simp [hc] at h, fun _ => rfl⟩
theorem run5 (r : List Nat) : ∀ t b : Int, (r.all dg = true → r.foldl rd (5, t, b) = (5, t, fz r b)) ∧ (r.all dg = false → (r.foldl rd (5, t, b)).1 = 6) := by
  induction r with
  | nil => exact fun t b => ⟨fun _ => rfl, fun h => by simp at h⟩
  | cons c r ih =>
    intro t b
    rw [List.foldl_cons]
    cases hc : dg c with
    | true =>
      have e : rd (5, t, b) c = (5, t, 10 * b + fnd c) := by simp [rd, stp5 hc]
      rw [e]
      refine ⟨fun h => ?_, fun h => ?_⟩
      · rw [List.all_cons, hc, Bool.true_and] at h
        exact (ih _ _).1 h
      · rw [List.all_cons, hc, Bool.true_and] at h
        exact (ih _ _).2 h
    | false =>
      have e : rd (5, t, b) c = (6, t, b) := by simp [rd, stp5n hc]
      rw [e, dead]
      exact ⟨fun h => by simp [hc] at h, fun _ => rfl⟩
theorem all_digits {r : List Nat} (h : r.all dg = true) : NumText.AllDigits r := fun c hc => by
  have := List.all_eq_true.mp h c hc
  simp only [dg, Bool.and_eq_true, decide_eq_true_eq] at this
  exact this
theorem fz_dv : ∀ (r : List Nat) (n : Nat), r.all dg = true → fz r (n : Int) = ((r.foldl (fun acc c => acc * 10 + (c - 48)) n : Nat) : Int)
  | [], _, _ => rfl
  | c :: r, n, h => by
    rw [List.all_cons, Bool.and_eq_true] at h
    have hc : 48 ≤ c ∧ c ≤ 57 := by
      have := h.1
      simp only [dg, Bool.and_eq_true, decide_eq_true_eq] at this
      exact this
    unfold fz
    rw [List.foldl_cons, List.foldl_cons, ← fz_dv r _ h.2]
    have e : 10 * (n : Int) + fnd c = ((n * 10 + (c - 48) : Nat) : Int) := by
      unfold fnd
      rw [if_pos h.1]
      omega
    rw [e]
    rfl
theorem fz_cons {c : Nat} {r : List Nat} (h : (c :: r).all dg = true) : fz r (10 * 0 + fnd c) = (dv (c :: r) : Int) := by
  have e := fz_dv (c :: r) 0 h
  unfold fz at e
  rw [List.foldl_cons] at e
  exact e
theorem pos_all {l : List Nat} (h : posW l = true) : l.all dg = true ∧ l ≠ [] := by
  cases l with
  | nil => simp [posW] at h
  | cons c r =>
    simp only [posW, Bool.and_eq_true] at h
    exact ⟨by simp only [List.all_cons, d1_dg h.1, h.2, Bool.and_self], by simp⟩
/-- what the walk says of a list without a slash -/
def Ra (a : List Nat) (s : Nat × Int × Int) : Prop := s.2.2 = 0 ∧ (s.1 = 0 ∨ s.1 = 1 ∨ s.1 = 2 ∨ s.1 = 3 ∨ s.1 = 6) ∧ ((s.1 = 2 ∨ s.1 = 3) ↔ wholeW a = true) ∧ (wholeW a = true → s.2.1 = (dv (strip a) : Int))
theorem rd0 {c : Nat} {s : Nat} (h : stp s c ≠ 3) (h5 : stp s c ≠ 5) (t b : Int) : rd (s, t, b) c = (stp s c, t, b) := by simp [rd, h, h5]
theorem posW_45 (r : List Nat) : posW (45 :: r) = false := by simp [posW, d1]
theorem posW_48 (r : List Nat) : posW (48 :: r) = false := by simp [posW, d1]
theorem strip_45 (r : List Nat) : strip (45 :: r) = r := rfl
theorem strip_ot {c : Nat} (r : List Nat) (h : c ≠ 45) : strip (c :: r) = c :: r := by
  show (if c = 45 then r else c :: r) = _
  rw [if_neg h]
theorem whole_48 (r : List Nat) : wholeW (48 :: r) = decide (r = []) := by
  unfold wholeW
  rw [strip_ot r (by decide), posW_48, Bool.or_false]
  simp
theorem whole_45 (r : List Nat) : wholeW (45 :: r) = posW r := by
  unfold wholeW
  rw [strip_45]
  simp
theorem whole_ot {c : Nat} (r : List Nat) (h : c ≠ 45) (h2 : c ≠ 48) : wholeW (c :: r) = posW (c :: r) := by
  unfold wholeW
  rw [strip_ot r h]
  simp [h2]
theorem run2 (r : List Nat) (h47 : 47 ∉ r) (t b : Int) : r.foldl rd (2, t, b) = if r = [] then (2, t, b) else (6, t, b) := by
  cases r with
  | nil => rfl
  | cons c r =>
    have h2 : c ≠ 47 := fun e => h47 (by simp [e])
    have e : stp 2 c = 6 := by simp [stp, h2]
    rw [List.foldl_cons, rd0 (by rw [e]; decide) (by rw [e]; decide), e, dead, if_neg (by simp)]
theorem run_pos {c s : Nat} {r : List Nat} (hs : s = 0 ∨ s = 1) (h45 : s = 0 → c ≠ 45 ∧ c ≠ 48) (h47 : 47 ∉ c :: r) :
    (posW (c :: r) = true → (c :: r).foldl rd (s, 0, 0) = (3, (dv (c :: r) : Int), 0)) ∧ (posW (c :: r) = false → ((c :: r).foldl rd (s, 0, 0)).1 = 6 ∧ ((c :: r).foldl rd (s, 0, 0)).2.2 = 0) := by
  have h2 : c ≠ 47 := fun e => h47 (by simp [e])
  have hr : 47 ∉ r := fun z => h47 (List.mem_cons_of_mem _ z)
  cases hc : d1 c with
  | true =>
    have e : stp s c = 3 := by
      rcases hs with rfl | rfl
      · simp [stp, hc, (h45 rfl).1, (h45 rfl).2]
      · simp [stp, hc]
    have e2 : rd (s, 0, 0) c = (3, 10 * 0 + fnd c, 0) := by simp [rd, e]
    rw [List.foldl_cons, e2]
    cases ha : r.all dg with
    | true =>
      rw [(run3 r hr _ _).1 ha, fz_cons (by rw [List.all_cons, d1_dg hc, ha] <;> rfl)]
      exact ⟨fun _ => rfl, fun h => by simp [posW, hc, ha] at h⟩
    | false =>
      refine ⟨fun h => by simp [posW, hc, ha] at h, fun _ => ⟨(run3 r hr _ _).2 ha, ?_⟩⟩
      have key : ∀ (r : List Nat), 47 ∉ r → ∀ t : Int, (r.foldl rd (3, t, 0)).2.2 = 0 := by
        intro r
        induction r with
        | nil => exact fun _ t => rfl
        | cons c r ih =>
          intro h t
          have h2 : c ≠ 47 := fun e => h (by simp [e])
          rw [List.foldl_cons]
          cases hc : dg c with
          | true =>
            have e : rd (3, t, 0) c = (3, 10 * t + fnd c, 0) := by simp [rd, stp3 hc]
            rw [e]
            exact ih (fun z => h (List.mem_cons_of_mem _ z)) _
          | false =>
            have e : rd (3, t, 0) c = (6, t, 0) := by simp [rd, stp3n hc h2]
            rw [e, dead]
      exact key r hr _
  | false =>
    have e : stp s c = 6 := by
      rcases hs with rfl | rfl
      · simp [stp, hc, (h45 rfl).1, (h45 rfl).2]
      · simp [stp, hc]
    rw [List.foldl_cons, rd0 (by rw [e]; decide) (by rw [e]; decide), e, dead]
    exact ⟨fun h => by simp [posW, hc] at h, fun _ => ⟨rfl, rfl⟩⟩
theorem runA (a : List Nat) (h47 : 47 ∉ a) : Ra a (a.foldl rd (0, 0, 0)) := by
  cases a with
  | nil => exact ⟨rfl, .inl rfl, by simp [wholeW, strip, posW], by simp [wholeW, strip, posW]⟩
  | cons c r =>
    have hr : 47 ∉ r := fun z => h47 (List.mem_cons_of_mem _ z)
    by_cases h45 : c = 45
    · subst h45
      have e : stp 0 45 = 1 := by decide
      rw [List.foldl_cons, rd0 (by rw [e]; decide) (by rw [e]; decide), e]
      unfold Ra
      rw [whole_45]
      have es : strip (45 :: r) = r := strip_45 r
      rw [es]
      cases r with
      | nil => exact ⟨rfl, .inr (.inl rfl), by simp [posW], by simp [posW]⟩
      | cons d r =>
        have k := run_pos (c := d) (s := 1) (r := r) (.inr rfl) (fun z => by cases z) hr
        cases hp : posW (d :: r) with
        | true =>
          rw [k.1 hp]
          exact ⟨rfl, .inr (.inr (.inr (.inl rfl))), by simp, fun _ => rfl⟩
        | false =>
          obtain ⟨k1, k2⟩ := k.2 hp
          exact ⟨k2, .inr (.inr (.inr (.inr k1))), by rw [k1]; simp, by simp⟩
    · by_cases h48 : c = 48
      · subst h48
        have e : stp 0 48 = 2 := by decide
        rw [List.foldl_cons, rd0 (by rw [e]; decide) (by rw [e]; decide), e, run2 r hr]
        unfold Ra
        rw [whole_48]
        by_cases hn : r = []
        · subst hn
          exact ⟨rfl, .inr (.inr (.inl rfl)), by simp, fun _ => by decide⟩
        · rw [if_neg hn]
          exact ⟨rfl, .inr (.inr (.inr (.inr rfl))), by simp [hn], by simp [hn]⟩
      · have k := run_pos (c := c) (s := 0) (r := r) (.inl rfl) (fun _ => ⟨h45, h48⟩) h47
        unfold Ra
        rw [whole_ot r h45 h48]
        have es : strip (c :: r) = c :: r := strip_ot r h45
        rw [es]
        cases hp : posW (c :: r) with
        | true =>
          rw [k.1 hp]
          exact ⟨rfl, .inr (.inr (.inr (.inl rfl))), by simp, fun _ => rfl⟩
        | false =>
          obtain ⟨k1, k2⟩ := k.2 hp
          exact ⟨k2, .inr (.inr (.inr (.inr k1))), by rw [k1]; simp, by simp⟩
/-- behind a slash -/
theorem runB (b : List Nat) (t : Int) : (posW b = true → b.foldl rd (4, t, 0) = (5, t, (dv b : Int))) ∧ (posW b = false → (b.foldl rd (4, t, 0)).1 = 4 ∨ (b.foldl rd (4, t, 0)).1 = 6) := by
  cases b with
  | nil => exact ⟨fun h => by simp [posW] at h, fun _ => .inl rfl⟩
  | cons c r =>
    cases hc : d1 c with
    | true =>
      have e : stp 4 c = 5 := by simp [stp, hc]
      have e2 : rd (4, t, 0) c = (5, t, 10 * 0 + fnd c) := by simp [rd, e]
      rw [List.foldl_cons, e2]
      cases ha : r.all dg with
      | true =>
        rw [(run5 r _ _).1 ha, fz_cons (by rw [List.all_cons, d1_dg hc, ha] <;> rfl)]
        exact ⟨fun _ => rfl, fun h => by simp [posW, hc, ha] at h⟩
      | false => exact ⟨fun h => by simp [posW, hc, ha] at h, fun _ => .inr ((run5 r _ _).2 ha)⟩
    | false =>
      have e : stp 4 c = 6 := by simp [stp, hc]
      rw [List.foldl_cons, rd0 (by rw [e]; decide) (by rw [e]; decide), e, dead]
      exact ⟨fun h => by simp [posW, hc] at h, fun _ => .inr rfl⟩
theorem split47 : ∀ l : List Nat, 47 ∉ l ∨ ∃ a b, l = a ++ 47 :: b ∧ 47 ∉ a
  | [] => .inl (by simp)
  | c :: r => by
    by_cases h : c = 47
    · exact .inr ⟨[], r, by simp [h], by simp⟩
    · rcases split47 r with k | ⟨a, b, rfl, k⟩
      · exact .inl (by simp; exact ⟨fun e => h e.symm, k⟩)
      · exact .inr ⟨c :: a, b, rfl, by simp; exact ⟨fun e => h e.symm, k⟩⟩
theorem whole_free {l : List Nat} (h : wholeW l = true) : 47 ∉ l := by
  intro hm
  cases l with
  | nil => simp at hm
  | cons c r =>
    have key : ∀ m : List Nat, posW m = true → 47 ∉ m := fun m hp z => by
      have := all_digits (pos_all hp).1 47 z
      omega
    by_cases h45 : c = 45
    · subst h45
      rw [whole_45] at h
      rcases List.mem_cons.mp hm with e | z
      · omega
      · exact key r h z
    · by_cases h48 : c = 48
      · subst h48
        rw [whole_48] at h
        simp at h
        subst h
        simp at hm
      · rw [whole_ot r h45 h48] at h
        exact key _ h hm
/-- the walk's end -/
inductive End (l : List Nat) : Nat × Int × Int → Prop where
  | flat (s : Nat × Int × Int) (h : 47 ∉ l) (h5 : s.1 ≠ 5) (hw : (s.1 = 2 ∨ s.1 = 3) ↔ wholeW l = true) : End l s
  | good (a b : List Nat) (e : l = a ++ 47 :: b) (h : 47 ∉ a) (ha : wholeW a = true) (hb : posW b = true) : End l (5, (dv (strip a) : Int), (dv b : Int))
  | bad (s : Nat × Int × Int) (a b : List Nat) (e : l = a ++ 47 :: b) (h : 47 ∉ a) (hn : (wholeW a && posW b) = false) (h5 : s.1 ≠ 5 ∧ s.1 ≠ 2 ∧ s.1 ≠ 3) : End l s
theorem run_end (l : List Nat) : End l (l.foldl rd (0, 0, 0)) := by
  rcases split47 l with h | ⟨a, b, rfl, h⟩
  · obtain ⟨h1, h2, h3, h4⟩ := runA l h
    exact .flat _ h (by omega) h3
  · have ka := runA a h
    have hs : ∃ s t z, a.foldl rd (0, 0, 0) = (s, t, z) := ⟨_, _, _, rfl⟩
    obtain ⟨s, t, z, es⟩ := hs
    have kb : (a ++ 47 :: b).foldl rd (0, 0, 0) = b.foldl rd (rd (s, t, z) 47) := by rw [List.foldl_append, List.foldl_cons, es]
    rw [es] at ka
    obtain ⟨h1, h2, h3, h4⟩ := ka
    dsimp only at h1 h2 h3 h4
    subst h1
    by_cases hw : s = 2 ∨ s = 3
    · have e4 : stp s 47 = 4 := by rcases hw with rfl | rfl <;> decide
      have e5 : rd (s, t, 0) 47 = (4, t, 0) := by rw [rd0 (by rw [e4]; decide) (by rw [e4]; decide), e4]
      have ha := h3.mp hw
      rw [kb, e5]
      cases hp : posW b with
      | true =>
        rw [(runB b t).1 hp, h4 ha]
        exact .good a b rfl h ha hp
      | false => exact .bad _ a b rfl h (by rw [hp, Bool.and_false]) (by rcases (runB b t).2 hp with e | e <;> rw [e] <;> decide)
    · have e4 : stp s 47 = 6 := by rcases h2 with rfl | rfl | rfl | rfl | rfl <;> first | decide | exact absurd (by simp) hw
      have e5 : rd (s, t, 0) 47 = (6, t, 0) := by rw [rd0 (by rw [e4]; decide) (by rw [e4]; decide), e4]
      rw [kb, e5, dead]
      exact .bad _ a b rfl h (by rw [Bool.and_eq_false_iff]; exact .inl (Bool.eq_false_iff.mpr fun z => hw (h3.mpr z))) ⟨by simp, by simp, by simp⟩
theorem dv_zero (l : List Nat) : dv (48 :: l) = dv l := rfl
theorem dv_pos {l : List Nat} (h : posW l = true) : 0 < dv l := by
  cases l with
  | nil => simp [posW] at h
  | cons c r =>
    simp only [posW, Bool.and_eq_true, d1, decide_eq_true_eq] at h
    have key : ∀ (r : List Nat) (n : Nat), 0 < n → 0 < r.foldl (fun acc c => acc * 10 + (c - 48)) n := by
      intro r
      induction r with
      | nil => exact fun n h => h
      | cons d r ih => exact fun n h => ih (n * 10 + (d - 48)) (by omega)
    show 0 < r.foldl (fun acc c => acc * 10 + (c - 48)) (0 * 10 + (c - 48))
    exact key r _ (by omega)
theorem dv_lt : ∀ (l : List Nat), l.all dg = true → dv l < 10 ^ l.length := by
  have key : ∀ (r : List Nat) (n k : Nat), r.all dg = true → n < 10 ^ k → r.foldl (fun acc c => acc * 10 + (c - 48)) n < 10 ^ (k + r.length) := by
    intro r
    induction r with
    | nil => exact fun n k _ h => h
    | cons c r ih =>
      intro n k h hn
      rw [List.all_cons, Bool.and_eq_true] at h
      have hc : c ≤ 57 := by
        have := h.1
        simp only [dg, Bool.and_eq_true, decide_eq_true_eq] at this
        omega
      have := ih (n * 10 + (c - 48)) (k + 1) h.2 (by rw [Nat.pow_succ]; omega)
      rw [List.foldl_cons, List.length_cons, show k + (r.length + 1) = k + 1 + r.length by omega]
      exact this
  intro l h
  have := key l 0 0 h (by decide)
  rw [Nat.zero_add] at this
  exact this
end MW

namespace MT
open PySem PySem.Spec PyProof.Rows L2 MW
open SX (S S_len S_cat S_inj slice_to slice_from num_S)
/-! texts as lists of codes -/
theorem vS_eq {l m : List Nat} : (V.str (S l) = V.str (S m)) ↔ l = m := ⟨fun h => S_inj (V.str.inj h), fun h => by rw [h]⟩
section
variable {A B : Prop} {l m : List Nat} {z : Str}
theorem w_iteS (m : List Nat) (e : z = S m) (h1 : l = m → A) (h2 : l ≠ m → B) : if decide (V.str (S l) = V.str z) = true then A else B := by
  subst e
  by_cases h : l = m
  · rw [if_pos (decide_eq_true (vS_eq.mpr h))]; exact h1 h
  · rw [if_neg (fun k => h (vS_eq.mp (of_decide_eq_true k)))]; exact h2 h
theorem w_iteSN (m : List Nat) (e : z = S m) (h1 : l ≠ m → A) (h2 : l = m → B) : if (!decide (V.str (S l) = V.str z)) = true then A else B := by
  subst e
  by_cases h : l = m
  · rw [decide_eq_true (vS_eq.mpr h)]; exact h2 h
  · rw [decide_eq_false (fun k => h (vS_eq.mp k))]; exact h1 h
end
theorem ascii_S (l : List Nat) : Txt.isascii (S l) = l.all (· < 128) := by
  unfold Txt.isascii S
  simp
theorem starts1 (l : List Nat) (c : Nat) : Txt.startswith (S l) (S [c]) = decide (l.head? = some c) := by
  cases l with
  | nil => simp [Txt.startswith, S, Str.length]
  | cons d r =>
    simp only [Txt.startswith, S_len, List.length_cons, List.length_nil]
    have e : ∀ z : Nat, (⟨#[z]⟩ : Str).length = 1 := fun _ => rfl
    by_cases h : d = c
    · subst h
      simp [Builtin.Str.subAt, S, e]
    · simp [Builtin.Str.subAt, S, h, e]
theorem digit_S (l : List Nat) (h : l.all (· < 128) = true) : Txt.isdigit (S l) = (!l.isEmpty && l.all dg) := by
  have e : ∀ l : List Nat, l.all (· < 128) = true → l.all Unicode.isDigit = l.all dg := by
    intro l
    induction l with
    | nil => exact fun _ => rfl
    | cons c r ih =>
      intro h
      rw [List.all_cons, Bool.and_eq_true] at h
      have k := cls_isdigit c (of_decide_eq_true h.1)
      rw [List.all_cons, List.all_cons, ih h.2, k]
      congr 1
      have k3 : ∀ c, c < 128 → inR 48 57 ⟨#[c]⟩ = dg c := by decide +kernel
      exact k3 c (of_decide_eq_true h.1)
  unfold Txt.isdigit
  rw [S_len]
  have e2 : (S l).cps.all Unicode.isDigit = l.all Unicode.isDigit := by simp [S]
  rw [e2, e l h]
  cases l <;> simp
theorem pos_txt (l : List Nat) : posW l = (Txt.isascii (S l) && (Txt.isdigit (S l) && !Txt.startswith (S l) (S [48]))) := by
  rw [ascii_S]
  cases h : l.all (· < 128) with
  | true =>
    rw [digit_S l h, starts1, Bool.true_and]
    cases l with
    | nil => rfl
    | cons c r =>
      simp only [posW, List.isEmpty_cons, Bool.not_false, Bool.true_and, List.all_cons, List.head?_cons, Option.some.injEq, d1, dg]
      cases r.all dg with
      | false => simp
      | true =>
        simp only [Bool.and_true]
        by_cases h1 : 49 ≤ c
        · by_cases h2 : c ≤ 57
          · simp [h1, h2, show 48 ≤ c by omega, show c ≠ 48 by omega]
          · simp [h1, h2]
        · by_cases h2 : c = 48
          · simp [h2]
          · simp [h1, show ¬ 48 ≤ c by omega]
  | false =>
    rw [Bool.false_and]
    cases l with
    | nil => simp at h
    | cons c r =>
      refine Bool.eq_false_iff.mpr fun k => ?_
      have := (pos_all k).1
      have k2 : (c :: r).all (· < 128) = true := List.all_eq_true.mpr fun d hd => by
        have := all_digits this d hd
        exact decide_eq_true (by omega)
      rw [k2] at h
      cases h
theorem cut_to {l : List Nat} {i : Int} (h : 0 ≤ i) : cutS (S l) none (some i) = S (l.take i.toNat) := by rw [C8.cutS_slice, slice_to h]
theorem cut_from {l : List Nat} {i : Int} (h : 0 ≤ i) : cutS (S l) (some i) none = S (l.drop i.toNat) := by rw [C8.cutS_slice, slice_from h]
theorem rp_S (l : List Nat) : Txt.removeprefix (S l) (S [45]) = S (strip l) := by
  rw [StrLaws.removeprefix_eq]
  have e := starts1 l 45
  unfold Txt.startswith at e
  cases l with
  | nil => rfl
  | cons c r =>
    by_cases h : c = 45
    · subst h
      rw [if_pos (by rw [e]; simp), strip_45]
      simp [S, Str.length]
    · rw [if_neg (by rw [e]; simp [h]), strip_ot r h]
theorem find_dg {c : Nat} (h : dg c = true) : Txt.find (S [48, 49, 50, 51, 52, 53, 54, 55, 56, 57]) (S [c]) = fnd c := by
  have hc : 48 ≤ c ∧ c ≤ 57 := by simpa [dg] using h
  have : c = 48 ∨ c = 49 ∨ c = 50 ∨ c = 51 ∨ c = 52 ∨ c = 53 ∨ c = 54 ∨ c = 55 ∨ c = 56 ∨ c = 57 := by omega
  rcases this with e | e | e | e | e | e | e | e | e | e <;> subst e <;> decide +kernel
/-- the text of a whole number -/
def nz (i : Int) : List Nat := if i < 0 then 45 :: TL.numL i.natAbs else TL.numL i.natAbs
theorem S_nz (i : Int) : Str.ofString (toString i) = S (nz i) := by
  unfold nz
  by_cases h : i < 0
  · rw [if_pos h]
    refine TL.ext_tl ?_
    have e : toString i = "-" ++ toString ((i.natAbs : Nat) : Int) := by
      rw [PyProof.Rows.toString_neg h]
      congr 2
      omega
    rw [e, TL.tl_ofString, String.toList_append, List.map_append]
    have e2 := TL.tl_num i.natAbs
    rw [TL.tl_ofString] at e2
    rw [e2]
    rfl
  · rw [if_neg h]
    have e : i = ((i.natAbs : Nat) : Int) := by omega
    exact (congrArg (fun x : Int => Str.ofString (toString x)) e).trans (num_S i.natAbs)
theorem posW_snoc {l : List Nat} {c : Nat} (h : posW l = true) (hc : dg c = true) : posW (l ++ [c]) = true := by
  cases l with
  | nil => simp [posW] at h
  | cons d r =>
    simp only [posW, Bool.and_eq_true, List.cons_append, List.all_append, List.all_cons, List.all_nil] at *
    exact ⟨h.1, h.2, hc, trivial⟩
theorem numL_posW : ∀ n : Nat, 0 < n → posW (TL.numL n) = true := by
  intro n
  induction n using Nat.strongRecOn with
  | _ n ih =>
    intro h
    by_cases h10 : n < 10
    · rw [TL.numL_lt h10]
      simp [posW, d1]
      omega
    · rw [TL.numL_step (by omega)]
      exact posW_snoc (ih (n / 10) (by omega) (by omega)) (by simp [dg]; omega)
theorem dv_num (n : Nat) : dv (TL.numL n) = n := TL.numL_val n
theorem head_num (n : Nat) : (TL.numL n).head? ≠ some 45 := by
  intro h
  have hm : 45 ∈ TL.numL n := List.mem_of_mem_head? h
  have := TL.numL_digits n 45 hm
  omega
theorem strip_num (n : Nat) : strip (TL.numL n) = TL.numL n := by
  have k := head_num n
  cases h : TL.numL n with
  | nil => rfl
  | cons c r =>
    rw [h] at k
    exact strip_ot r (by simpa using k)
theorem nz_whole (i : Int) : wholeW (nz i) = true := by
  unfold nz
  by_cases h : i < 0
  · rw [if_pos h, whole_45]
    exact numL_posW _ (by omega)
  · rw [if_neg h]
    by_cases h0 : i.natAbs = 0
    · rw [h0]
      decide
    · unfold wholeW
      rw [strip_num, numL_posW _ (by omega), Bool.or_true]
theorem nz_val (i : Int) : vz (nz i) = i := by
  unfold vz nz
  by_cases h : i < 0
  · rw [if_pos h, if_pos (by simp), strip_45, dv_num]
    omega
  · rw [if_neg h, if_neg (head_num _), strip_num, dv_num]
    omega
theorem numL_nz {n : Nat} : nz (n : Int) = TL.numL n := by
  unfold nz
  rw [if_neg (by omega)]
  simp
section
variable {σ : L2.St} {H : Hp} {Q : VK} {to te : TE} {r : V → List V → Hp → VK → Prop}
theorem w_m0 (h : to σ H fun x H1 => (∃ a, x = .str a) ∧ r x [] H1 Q) : tM0 r to σ H Q := h
theorem w_m1 (h : to σ H fun x H1 => (∃ a, x = .str a) ∧ te σ H1 fun y H2 => r x [y] H2 Q) : tM1 r to te σ H Q := h
theorem w_slice {r : V → Option Int → Option Int → Hp → VK → Prop} {te : TE} {tl th : TO} (h : te σ H fun x H1 => tl σ H1 fun l H2 => th σ H2 fun u H3 => r x l u H3 Q) : L2.tSl r te tl th σ H Q := h
theorem w_nopart {R : Option Int → Hp → Prop} (h : R none H) : tNoPart σ H R := h
theorem w_part {t : TE} {R : Option Int → Hp → Prop} (h : t σ H fun x H1 => ∃ i, x = .int i ∧ R (some i) H1) : tPart t σ H R := h
theorem w_cut {l : List Nat} {lo hi : Option Int} (hl : l.length ≤ 100000) (q : Q (.str (cutS (S l) lo hi)) H) : rSlS (.str (S l)) lo hi H Q := ⟨_, rfl, by rw [S_len]; exact Nat.le_trans hl (by decide), q⟩
theorem w_cutTo {l : List Nat} {i : Int} (hl : l.length ≤ 100000) (hi : 0 ≤ i) (q : Q (.str (S (l.take i.toNat))) H) : rSlS (.str (S l)) none (some i) H Q := w_cut hl (by rw [cut_to hi]; exact q)
theorem w_cutFrom {l : List Nat} {i : Int} (hl : l.length ≤ 100000) (hi : 0 ≤ i) (q : Q (.str (S (l.drop i.toNat))) H) : rSlS (.str (S l)) (some i) none H Q := w_cut hl (by rw [cut_from hi]; exact q)
def rAddS : R2 := fun x y H Q => ∃ i j, x = .str i ∧ y = .str j ∧ i.length + j.length ≤ sizeLine ∧ Q (.str (i ++ j)) H
theorem op_addS {X : Cx} : OpR X (binaryOp .Add) rAddS := op_add_str
theorem w_addS {l m : List Nat} (hl : l.length + m.length ≤ 100000) (q : Q (.str (S (l ++ m))) H) : rAddS (.str (S l)) (.str (S m)) H Q := ⟨_, _, rfl, rfl, by rw [S_len, S_len]; exact Nat.le_trans hl (by decide), by rw [S_cat]; exact q⟩
theorem w_ixS {l : List Nat} {k : Int} {c : Nat} (hl : l.length ≤ 100000) (a : atI l k = some c) (q : Q (.str (S [c])) H) : rIxS (.str (S l)) (.int k) H Q := ⟨_, _, c, rfl, rfl, by rw [S_len]; exact Nat.le_trans hl (by decide), a, q⟩
theorem pickN {l : List Nat} {k : Int} (h0 : 0 ≤ k) (h : k < l.length) : ∃ c, atI l k = some c ∧ c ∈ l := by
  obtain ⟨j, rfl⟩ := Int.eq_ofNat_of_zero_le h0
  have hj : j < l.length := by omega
  exact ⟨l[j], atI_nat (j := j) (List.getElem?_eq_getElem hj), List.getElem_mem hj⟩
def rInS : R2 := fun x y H Q => ∃ (c : Nat) (z : Str), x = .str ⟨#[c]⟩ ∧ y = .str z ∧ Q (.bl (decide (c ∈ z.cps.toList))) H
def rNotInS : R2 := fun x y H Q => ∃ (c : Nat) (z : Str), x = .str ⟨#[c]⟩ ∧ y = .str z ∧ Q (.bl (!decide (c ∈ z.cps.toList))) H
theorem op_inS {X : Cx} : OpR X (compareOp .In) rInS := op_in_sign
theorem op_notInS {X : Cx} : OpR X (compareOp .NotIn) rNotInS := op_notIn_sign
theorem w_in1 {c : Nat} {m : List Nat} (q : Q (.bl (decide (c ∈ m))) H) : rInS (.str (S [c])) (.str (S m)) H Q := ⟨c, _, rfl, rfl, q⟩
theorem w_notin1 {c : Nat} {m : List Nat} (q : Q (.bl (!decide (c ∈ m))) H) : rNotInS (.str (S [c])) (.str (S m)) H Q := ⟨c, _, rfl, rfl, q⟩
theorem w_chain {r r' : R2} {ta tb tc : TE} (h : ta σ H fun x H1 => tb σ H1 fun y H2 => r x y H2 fun z H3 => ∃ k, z = .bl k ∧ (if k = true then tc σ H3 fun w' H4 => r' y w' H4 Q else Q (.bl false) H3)) : tChain r r' ta tb tc σ H Q := h
theorem w_rng3 {tl : TA} {R : It → Hp → Prop} (h : tl σ H fun vs H1 => ∃ (i j c : Int) (n : Nat), vs = [.int i, .int j, .int c] ∧ RgC i j c n ∧ R (Itc i c n) H1) : iRng3 tl σ H R := h
def rLenS : List V → Hp → VK → Prop := fun xs H Q => ∃ z : Str, xs = [.str z] ∧ z.length ≤ sizeLine ∧ Q (.int z.length) H
theorem call_lenS {X : Cx} : CallR X (.builtin "len") rLenS := call_len_str
theorem w_lenS {l : List Nat} (hl : l.length ≤ 100000) (q : Q (.int l.length) H) : rLenS [.str (S l)] H Q := ⟨_, rfl, by rw [S_len]; exact Nat.le_trans hl (by decide), by rw [S_len]; exact q⟩
theorem rg0 {n : Nat} (h : n < 64) : RgC (n : Int) (n : Int) 64 0 := by
  have k : ∀ n : Nat, n < 64 → Builtin.Range.small (n : Int) (n : Int) 64 = true := by decide +kernel
  exact ⟨by decide, by decide, k n h, by simp [Builtin.Range.rangeSize]⟩
theorem pe_strS {X : Cx} {z : Str} {l : List Nat} {j : Nat} {pos : Pos} (e : z = S l) : PE X (.Constant (.str z) j pos) (tC (.str (S l))) := by
  subst e
  exact pe_str
end
end MT

local macro_rules | `(tactic| walk_at "len") => `(tactic| first
  | omega
  | (simp only [List.length_append, List.length_cons, List.length_nil, List.length_take, List.length_drop, List.length_map]; omega)
  | decide)
local macro_rules | `(tactic| walk_at "w1") => `(tactic| first
  | with_reducible refine MT.w_m0 ?_
  | with_reducible refine MT.w_m1 ?_
  | with_reducible refine MT.w_slice ?_
  | with_reducible refine MT.w_nopart ?_
  | with_reducible refine MT.w_part ?_
  | ((with_reducible refine' MT.w_cutTo ?wh ?wa ?_); (case wh => walk_at "len"); (case wa => omega))
  | ((with_reducible refine' MT.w_cutFrom ?wh ?wa ?_); (case wh => walk_at "len"); (case wa => omega))
  | ((with_reducible refine' MT.w_addS ?wh ?_); (case wh => walk_at "len"))
  | ((with_reducible refine' MT.w_ixS ?wh ?wa ?_); (case wh => walk_at "len"); (case wa => assumption))
  | with_reducible refine MT.w_in1 ?_
  | with_reducible refine MT.w_notin1 ?_
  | with_reducible refine MT.w_chain ?_
  | with_reducible refine MT.w_rng3 ?_
  | ((with_reducible refine' MT.w_lenS ?wh ?_); (case wh => walk_at "len"))
  | with_reducible refine ⟨⟨_, rfl⟩, ?_⟩
  | with_reducible refine ⟨trivial, ?_⟩
  | with_reducible refine ⟨_, _, rfl, rfl, ?_⟩
  | fail "w1")

namespace L
open PySem PySem.Spec PyProof.Rows L2 Z
def topS (i : Nat) : Stmt := PySem.Challenge.pw_papersat_k21_trail_keeps_levels.main.body.getD i (.Pass ⟨0, 0, 0, 0⟩)
abbrev s_BadLiteral_init : Stmt := inClass (topS 11) 0
abbrev N_BadLiteral_init : List Str := ["self", "literal"]
theorem sc_BadLiteral_init : FnScope N_BadLiteral_init ["self", "literal"] (defScope s_BadLiteral_init) := ⟨rfl, rfl, rfl, by decide +kernel, rfl, by decide +kernel, by decide +kernel⟩
abbrev s_Trail_init : Stmt := inClass (topS 15) 0
abbrev N_Trail_init : List Str := ["self", "nodes", "node"]
theorem sc_Trail_init : FnScope N_Trail_init ["self", "nodes"] (defScope s_Trail_init) := ⟨rfl, rfl, rfl, by decide +kernel, rfl, by decide +kernel, by decide +kernel⟩
abbrev s_Trail_choose : Stmt := inClass (topS 15) 1
abbrev N_Trail_choose : List Str := ["self", "literal"]
theorem sc_Trail_choose : FnScope N_Trail_choose ["self", "literal"] (defScope s_Trail_choose) := ⟨rfl, rfl, rfl, by decide +kernel, rfl, by decide +kernel, by decide +kernel⟩
abbrev s_Trail_force : Stmt := inClass (topS 15) 2
abbrev N_Trail_force : List Str := ["self", "literal", "reason"]
theorem sc_Trail_force : FnScope N_Trail_force ["self", "literal", "reason"] (defScope s_Trail_force) := ⟨rfl, rfl, rfl, by decide +kernel, rfl, by decide +kernel, by decide +kernel⟩
abbrev s_Trail_back : Stmt := inClass (topS 15) 3
abbrev N_Trail_back : List Str := ["self", "level", "start", "literal"]
theorem sc_Trail_back : FnScope N_Trail_back ["self", "level"] (defScope s_Trail_back) := ⟨rfl, rfl, rfl, by decide +kernel, rfl, by decide +kernel, by decide +kernel⟩
abbrev s_Trail_value : Stmt := inClass (topS 15) 4
abbrev N_Trail_value : List Str := ["self", "literal"]
theorem sc_Trail_value : FnScope N_Trail_value ["self", "literal"] (defScope s_Trail_value) := ⟨rfl, rfl, rfl, by decide +kernel, rfl, by decide +kernel, by decide +kernel⟩
abbrev s_Trail_level_of : Stmt := inClass (topS 15) 5
abbrev N_Trail_level_of : List Str := ["self", "literal", "place"]
theorem sc_Trail_level_of : FnScope N_Trail_level_of ["self", "literal"] (defScope s_Trail_level_of) := ⟨rfl, rfl, rfl, by decide +kernel, rfl, by decide +kernel, by decide +kernel⟩
abbrev s_Trail_reason_of : Stmt := inClass (topS 15) 6
abbrev N_Trail_reason_of : List Str := ["self", "literal", "place"]
theorem sc_Trail_reason_of : FnScope N_Trail_reason_of ["self", "literal"] (defScope s_Trail_reason_of) := ⟨rfl, rfl, rfl, by decide +kernel, rfl, by decide +kernel, by decide +kernel⟩
abbrev s_Trail_place_of : Stmt := inClass (topS 15) 7
abbrev N_Trail_place_of : List Str := ["self", "literal"]
theorem sc_Trail_place_of : FnScope N_Trail_place_of ["self", "literal"] (defScope s_Trail_place_of) := ⟨rfl, rfl, rfl, by decide +kernel, rfl, by decide +kernel, by decide +kernel⟩
abbrev s_Trail_literals : Stmt := inClass (topS 15) 8
abbrev N_Trail_literals : List Str := ["self"]
theorem sc_Trail_literals : FnScope N_Trail_literals ["self"] (defScope s_Trail_literals) := ⟨rfl, rfl, rfl, by decide +kernel, rfl, by decide +kernel, by decide +kernel⟩
abbrev s_Trail_sizes : Stmt := inClass (topS 15) 9
abbrev N_Trail_sizes : List Str := ["self", "edges", "k"]
theorem sc_Trail_sizes : FnScope N_Trail_sizes ["self"] (defScope s_Trail_sizes) := ⟨rfl, rfl, rfl, by decide +kernel, rfl, by decide +kernel, by decide +kernel⟩
abbrev s_Trail_depth : Stmt := inClass (topS 15) 10
abbrev N_Trail_depth : List Str := ["self"]
theorem sc_Trail_depth : FnScope N_Trail_depth ["self"] (defScope s_Trail_depth) := ⟨rfl, rfl, rfl, by decide +kernel, rfl, by decide +kernel, by decide +kernel⟩
abbrev s_Trail_contains : Stmt := inClass (topS 15) 12
abbrev N_Trail_contains : List Str := ["self", "x"]
theorem sc_Trail_contains : FnScope N_Trail_contains ["self", "x"] (defScope s_Trail_contains) := ⟨rfl, rfl, rfl, by decide +kernel, rfl, by decide +kernel, by decide +kernel⟩
abbrev s_Trail_put : Stmt := inClass (topS 15) 13
abbrev N_Trail_put : List Str := ["self", "literal", "reason"]
theorem sc_Trail_put : FnScope N_Trail_put ["self", "literal", "reason"] (defScope s_Trail_put) := ⟨rfl, rfl, rfl, by decide +kernel, rfl, by decide +kernel, by decide +kernel⟩
abbrev s_Trail_refuse_unknown : Stmt := inClass (topS 15) 14
abbrev N_Trail_refuse_unknown : List Str := ["self", "literal"]
theorem sc_Trail_refuse_unknown : FnScope N_Trail_refuse_unknown ["self", "literal"] (defScope s_Trail_refuse_unknown) := ⟨rfl, rfl, rfl, by decide +kernel, rfl, by decide +kernel, by decide +kernel⟩
abbrev s_Trail_refuse_unless_open : Stmt := inClass (topS 15) 15
abbrev N_Trail_refuse_unless_open : List Str := ["self", "literal"]
theorem sc_Trail_refuse_unless_open : FnScope N_Trail_refuse_unless_open ["self", "literal"] (defScope s_Trail_refuse_unless_open) := ⟨rfl, rfl, rfl, by decide +kernel, rfl, by decide +kernel, by decide +kernel⟩
abbrev s_pool : Stmt := topS 17
abbrev N_pool : List Str := ["_law_script", "_law_k", "_law_cell", "_law_spare"]
theorem sc_pool : FnScope N_pool ["_law_script", "_law_k"] (defScope s_pool) := ⟨rfl, rfl, rfl, by decide +kernel, rfl, by decide +kernel, by decide +kernel⟩
abbrev s_take : Stmt := topS 18
abbrev N_take : List Str := ["_law_pool_here", "_law_size", "_law_k", "_law_cell", "_law_mixed"]
theorem sc_take : FnScope N_take ["_law_pool_here", "_law_size"] (defScope s_take) := ⟨rfl, rfl, rfl, by decide +kernel, rfl, by decide +kernel, by decide +kernel⟩
abbrev s_whole : Stmt := topS 19
abbrev N_whole : List Str := ["_law_value"]
theorem sc_whole : FnScope N_whole ["_law_value"] (defScope s_whole) := ⟨rfl, rfl, rfl, by decide +kernel, rfl, by decide +kernel, by decide +kernel⟩
abbrev s_alike : Stmt := topS 20
abbrev N_alike : List Str := ["_law_actual", "_law_expected"]
theorem sc_alike : FnScope N_alike ["_law_actual", "_law_expected"] (defScope s_alike) := ⟨rfl, rfl, rfl, by decide +kernel, rfl, by decide +kernel, by decide +kernel⟩
abbrev s_list : Stmt := topS 21
abbrev N_list : List Str := ["_law_actual", "_law_expected", "_law_k"]
theorem sc_list : FnScope N_list ["_law_actual", "_law_expected"] (defScope s_list) := ⟨rfl, rfl, rfl, by decide +kernel, rfl, by decide +kernel, by decide +kernel⟩
abbrev s_nodes_of : Stmt := topS 22
abbrev N_nodes_of : List Str := ["_law_pool_here", "_law_many", "_law_gaps", "_law_nodes", "_law_node", "_law_k", "_law_cut"]
theorem sc_nodes_of : FnScope N_nodes_of ["_law_pool_here"] (defScope s_nodes_of) := ⟨rfl, rfl, rfl, by decide +kernel, rfl, by decide +kernel, by decide +kernel⟩
abbrev s_stranger : Stmt := topS 23
abbrev N_stranger : List Str := ["_law_pool_here", "_law_nodes", "_law_start", "_law_k"]
theorem sc_stranger : FnScope N_stranger ["_law_pool_here", "_law_nodes"] (defScope s_stranger) := ⟨rfl, rfl, rfl, by decide +kernel, rfl, by decide +kernel, by decide +kernel⟩
abbrev s_place : Stmt := topS 24
abbrev N_place : List Str := ["_law_rows", "_law_literal_here", "_law_k"]
theorem sc_place : FnScope N_place ["_law_rows", "_law_literal_here"] (defScope s_place) := ⟨rfl, rfl, rfl, by decide +kernel, rfl, by decide +kernel, by decide +kernel⟩
abbrev s_literal : Stmt := topS 25
abbrev N_literal : List Str := ["_law_pool_here", "_law_nodes", "_law_rows", "_law_pick", "_law_node", "_law_at", "_law_k", "_law_other"]
theorem sc_literal : FnScope N_literal ["_law_pool_here", "_law_nodes", "_law_rows"] (defScope s_literal) := ⟨rfl, rfl, rfl, by decide +kernel, rfl, by decide +kernel, by decide +kernel⟩
abbrev s_ask : Stmt := topS 26
abbrev N_ask : List Str := ["_law_trail", "_law_door", "_law_literal_here"]
theorem sc_ask : FnScope N_ask ["_law_trail", "_law_door", "_law_literal_here"] (defScope s_ask) := ⟨rfl, rfl, rfl, by decide +kernel, rfl, by decide +kernel, by decide +kernel⟩
abbrev s_refused : Stmt := topS 27
abbrev N_refused : List Str := ["_law_trail", "_law_door", "_law_literal_here", "e"]
theorem sc_refused : FnScope N_refused ["_law_trail", "_law_door", "_law_literal_here"] (defScope s_refused) := ⟨rfl, rfl, rfl, by decide +kernel, rfl, by decide +kernel, by decide +kernel⟩
abbrev s_refused_base : Stmt := topS 28
abbrev N_refused_base : List Str := ["_law_trail", "_law_door", "_law_literal_here", "e"]
theorem sc_refused_base : FnScope N_refused_base ["_law_trail", "_law_door", "_law_literal_here"] (defScope s_refused_base) := ⟨rfl, rfl, rfl, by decide +kernel, rfl, by decide +kernel, by decide +kernel⟩
abbrev s_refuses : Stmt := topS 29
abbrev N_refuses : List Str := ["_law_trail", "_law_door", "_law_literal_here", "_law_base"]
theorem sc_refuses : FnScope N_refuses ["_law_trail", "_law_door", "_law_literal_here", "_law_base"] (defScope s_refuses) := ⟨rfl, rfl, rfl, by decide +kernel, rfl, by decide +kernel, by decide +kernel⟩
abbrev s_literal_told : Stmt := topS 30
abbrev N_literal_told : List Str := ["_law_trail", "_law_rows", "_law_literal_here", "_law_place_here", "_law_row"]
theorem sc_literal_told : FnScope N_literal_told ["_law_trail", "_law_rows", "_law_literal_here"] (defScope s_literal_told) := ⟨rfl, rfl, rfl, by decide +kernel, rfl, by decide +kernel, by decide +kernel⟩
abbrev s_told : Stmt := topS 31
abbrev N_told : List Str := ["_law_seat", "_law_trail", "_law_rows", "_law_depth", "_law_row", "_law_levels", "_law_sizes", "_law_level", "_law_turn", "_law_order", "_law_counts", "_law_node"]
theorem sc_told : FnScope N_told ["_law_seat"] (defScope s_told) := ⟨rfl, rfl, rfl, by decide +kernel, rfl, by decide +kernel, by decide +kernel⟩
abbrev s_doors : Stmt := topS 32
abbrev N_doors : List Str := ["_law_seat", "_law_literal_here", "_law_k", "_law_trail", "_law_rows", "_law_door", "_law_old"]
theorem sc_doors : FnScope N_doors ["_law_seat", "_law_literal_here", "_law_k"] (defScope s_doors) := ⟨rfl, rfl, rfl, by decide +kernel, rfl, by decide +kernel, by decide +kernel⟩
abbrev s_deed : Stmt := topS 33
abbrev N_deed : List Str := ["_law_pool_here", "_law_seat", "_law_trail", "_law_rows", "_law_depth", "_law_row", "_law_pick", "_law_level", "_law_literal_here", "_law_reason"]
theorem sc_deed : FnScope N_deed ["_law_pool_here", "_law_seat"] (defScope s_deed) := ⟨rfl, rfl, rfl, by decide +kernel, rfl, by decide +kernel, by decide +kernel⟩
abbrev s_law : Stmt := topS 34
abbrev N_law : List Str := ["_law_script", "_law_first", "_law_seats", "_law_turn", "_law_nodes", "_law_given", "_law_trail", "_law_extra", "_law_k", "_law_pool_here", "_law_seat", "_law_literal_here"]
theorem sc_law : FnScope N_law ["_law_script"] (defScope s_law) := ⟨rfl, rfl, rfl, by decide +kernel, rfl, by decide +kernel, by decide +kernel⟩
def lit_0 : List Nat := [32, 100, 111, 101, 115, 32, 110, 111, 116, 32, 102, 105, 116, 32, 104, 101, 114, 101]
structure Txt (K : PySem.W.Frag) (mg : Str → Option Value) : Type where
  f_BadLiteral_init : Addr
  fd_BadLiteral_init : FuncData
  F_BadLiteral_init : Fun K "__init__" "BadLiteral.__init__" s_BadLiteral_init f_BadLiteral_init fd_BadLiteral_init
  b_BadLiteral_init : Binds K fd_BadLiteral_init ["self", "literal"] []
  f_Trail_init : Addr
  fd_Trail_init : FuncData
  F_Trail_init : Fun K "__init__" "Trail.__init__" s_Trail_init f_Trail_init fd_Trail_init
  b_Trail_init : Binds K fd_Trail_init ["self", "nodes"] []
  f_Trail_choose : Addr
  fd_Trail_choose : FuncData
  F_Trail_choose : Fun K "choose" "Trail.choose" s_Trail_choose f_Trail_choose fd_Trail_choose
  b_Trail_choose : Binds K fd_Trail_choose ["self", "literal"] []
  f_Trail_force : Addr
  fd_Trail_force : FuncData
  F_Trail_force : Fun K "force" "Trail.force" s_Trail_force f_Trail_force fd_Trail_force
  b_Trail_force : Binds K fd_Trail_force ["self", "literal", "reason"] []
  f_Trail_back : Addr
  fd_Trail_back : FuncData
  F_Trail_back : Fun K "back" "Trail.back" s_Trail_back f_Trail_back fd_Trail_back
  b_Trail_back : Binds K fd_Trail_back ["self", "level"] []
  f_Trail_value : Addr
  fd_Trail_value : FuncData
  F_Trail_value : Fun K "value" "Trail.value" s_Trail_value f_Trail_value fd_Trail_value
  b_Trail_value : Binds K fd_Trail_value ["self", "literal"] []
  f_Trail_level_of : Addr
  fd_Trail_level_of : FuncData
  F_Trail_level_of : Fun K "level_of" "Trail.level_of" s_Trail_level_of f_Trail_level_of fd_Trail_level_of
  b_Trail_level_of : Binds K fd_Trail_level_of ["self", "literal"] []
  f_Trail_reason_of : Addr
  fd_Trail_reason_of : FuncData
  F_Trail_reason_of : Fun K "reason_of" "Trail.reason_of" s_Trail_reason_of f_Trail_reason_of fd_Trail_reason_of
  b_Trail_reason_of : Binds K fd_Trail_reason_of ["self", "literal"] []
  f_Trail_place_of : Addr
  fd_Trail_place_of : FuncData
  F_Trail_place_of : Fun K "place_of" "Trail.place_of" s_Trail_place_of f_Trail_place_of fd_Trail_place_of
  b_Trail_place_of : Binds K fd_Trail_place_of ["self", "literal"] []
  f_Trail_literals : Addr
  fd_Trail_literals : FuncData
  F_Trail_literals : Fun K "literals" "Trail.literals" s_Trail_literals f_Trail_literals fd_Trail_literals
  b_Trail_literals : Binds K fd_Trail_literals ["self"] []
  f_Trail_sizes : Addr
  fd_Trail_sizes : FuncData
  F_Trail_sizes : Fun K "sizes" "Trail.sizes" s_Trail_sizes f_Trail_sizes fd_Trail_sizes
  b_Trail_sizes : Binds K fd_Trail_sizes ["self"] []
  f_Trail_depth : Addr
  fd_Trail_depth : FuncData
  F_Trail_depth : Fun K "depth" "Trail.depth" s_Trail_depth f_Trail_depth fd_Trail_depth
  b_Trail_depth : Binds K fd_Trail_depth ["self"] []
  f_Trail_contains : Addr
  fd_Trail_contains : FuncData
  F_Trail_contains : Fun K "__contains__" "Trail.__contains__" s_Trail_contains f_Trail_contains fd_Trail_contains
  b_Trail_contains : Binds K fd_Trail_contains ["self", "x"] []
  f_Trail_put : Addr
  fd_Trail_put : FuncData
  F_Trail_put : Fun K "_put" "Trail._put" s_Trail_put f_Trail_put fd_Trail_put
  b_Trail_put : Binds K fd_Trail_put ["self", "literal", "reason"] []
  f_Trail_refuse_unknown : Addr
  fd_Trail_refuse_unknown : FuncData
  F_Trail_refuse_unknown : Fun K "_refuse_unknown" "Trail._refuse_unknown" s_Trail_refuse_unknown f_Trail_refuse_unknown fd_Trail_refuse_unknown
  b_Trail_refuse_unknown : Binds K fd_Trail_refuse_unknown ["self", "literal"] []
  f_Trail_refuse_unless_open : Addr
  fd_Trail_refuse_unless_open : FuncData
  F_Trail_refuse_unless_open : Fun K "_refuse_unless_open" "Trail._refuse_unless_open" s_Trail_refuse_unless_open f_Trail_refuse_unless_open fd_Trail_refuse_unless_open
  b_Trail_refuse_unless_open : Binds K fd_Trail_refuse_unless_open ["self", "literal"] []
  f_pool : Addr
  fd_pool : FuncData
  F_pool : Fun K "_law_pool" "_law_pool" s_pool f_pool fd_pool
  b_pool : Binds K fd_pool ["_law_script", "_law_k"] []
  g_pool : mg "_law_pool" = some (.ref f_pool)
  f_take : Addr
  fd_take : FuncData
  F_take : Fun K "_law_take" "_law_take" s_take f_take fd_take
  b_take : Binds K fd_take ["_law_pool_here", "_law_size"] []
  g_take : mg "_law_take" = some (.ref f_take)
  f_whole : Addr
  fd_whole : FuncData
  F_whole : Fun K "_law_whole" "_law_whole" s_whole f_whole fd_whole
  b_whole : Binds K fd_whole ["_law_value"] []
  g_whole : mg "_law_whole" = some (.ref f_whole)
  f_alike : Addr
  fd_alike : FuncData
  F_alike : Fun K "_law_alike" "_law_alike" s_alike f_alike fd_alike
  b_alike : Binds K fd_alike ["_law_actual", "_law_expected"] []
  g_alike : mg "_law_alike" = some (.ref f_alike)
  f_list : Addr
  fd_list : FuncData
  F_list : Fun K "_law_list" "_law_list" s_list f_list fd_list
  b_list : Binds K fd_list ["_law_actual", "_law_expected"] []
  g_list : mg "_law_list" = some (.ref f_list)
  f_nodes_of : Addr
  fd_nodes_of : FuncData
  F_nodes_of : Fun K "_law_nodes_of" "_law_nodes_of" s_nodes_of f_nodes_of fd_nodes_of
  b_nodes_of : Binds K fd_nodes_of ["_law_pool_here"] []
  g_nodes_of : mg "_law_nodes_of" = some (.ref f_nodes_of)
  f_stranger : Addr
  fd_stranger : FuncData
  F_stranger : Fun K "_law_stranger" "_law_stranger" s_stranger f_stranger fd_stranger
  b_stranger : Binds K fd_stranger ["_law_pool_here", "_law_nodes"] []
  g_stranger : mg "_law_stranger" = some (.ref f_stranger)
  f_place : Addr
  fd_place : FuncData
  F_place : Fun K "_law_place" "_law_place" s_place f_place fd_place
  b_place : Binds K fd_place ["_law_rows", "_law_literal_here"] []
  g_place : mg "_law_place" = some (.ref f_place)
  f_literal : Addr
  fd_literal : FuncData
  F_literal : Fun K "_law_literal" "_law_literal" s_literal f_literal fd_literal
  b_literal : Binds K fd_literal ["_law_pool_here", "_law_nodes", "_law_rows"] []
  g_literal : mg "_law_literal" = some (.ref f_literal)
  f_ask : Addr
  fd_ask : FuncData
  F_ask : Fun K "_law_ask" "_law_ask" s_ask f_ask fd_ask
  b_ask : Binds K fd_ask ["_law_trail", "_law_door", "_law_literal_here"] []
  g_ask : mg "_law_ask" = some (.ref f_ask)
  f_refused : Addr
  fd_refused : FuncData
  F_refused : Fun K "_law_refused" "_law_refused" s_refused f_refused fd_refused
  b_refused : Binds K fd_refused ["_law_trail", "_law_door", "_law_literal_here"] []
  g_refused : mg "_law_refused" = some (.ref f_refused)
  f_refused_base : Addr
  fd_refused_base : FuncData
  F_refused_base : Fun K "_law_refused_base" "_law_refused_base" s_refused_base f_refused_base fd_refused_base
  b_refused_base : Binds K fd_refused_base ["_law_trail", "_law_door", "_law_literal_here"] []
  g_refused_base : mg "_law_refused_base" = some (.ref f_refused_base)
  f_refuses : Addr
  fd_refuses : FuncData
  F_refuses : Fun K "_law_refuses" "_law_refuses" s_refuses f_refuses fd_refuses
  b_refuses : Binds K fd_refuses ["_law_trail", "_law_door", "_law_literal_here", "_law_base"] []
  g_refuses : mg "_law_refuses" = some (.ref f_refuses)
  f_literal_told : Addr
  fd_literal_told : FuncData
  F_literal_told : Fun K "_law_literal_told" "_law_literal_told" s_literal_told f_literal_told fd_literal_told
  b_literal_told : Binds K fd_literal_told ["_law_trail", "_law_rows", "_law_literal_here"] []
  g_literal_told : mg "_law_literal_told" = some (.ref f_literal_told)
  f_told : Addr
  fd_told : FuncData
  F_told : Fun K "_law_told" "_law_told" s_told f_told fd_told
  b_told : Binds K fd_told ["_law_seat"] []
  g_told : mg "_law_told" = some (.ref f_told)
  f_doors : Addr
  fd_doors : FuncData
  F_doors : Fun K "_law_doors" "_law_doors" s_doors f_doors fd_doors
  b_doors : Binds K fd_doors ["_law_seat", "_law_literal_here", "_law_k"] []
  g_doors : mg "_law_doors" = some (.ref f_doors)
  f_deed : Addr
  fd_deed : FuncData
  F_deed : Fun K "_law_deed" "_law_deed" s_deed f_deed fd_deed
  b_deed : Binds K fd_deed ["_law_pool_here", "_law_seat"] []
  g_deed : mg "_law_deed" = some (.ref f_deed)
  f_law : Addr
  fd_law : FuncData
  F_law : Fun K "law" "law" s_law f_law fd_law
  b_law : Binds K fd_law ["_law_script"] []
  g_law : mg "law" = some (.ref f_law)
  C_Trail : Addr
  c_Trail : mg "Trail" = some (.ref C_Trail)
  cl_Trail : Cls K C_Trail
  mk_Trail : Mk K C_Trail f_Trail_init
  n_Trail__nodes : NoAttr K C_Trail "_nodes"
  n_Trail__literals : NoAttr K C_Trail "_literals"
  n_Trail__levels : NoAttr K C_Trail "_levels"
  n_Trail__reasons : NoAttr K C_Trail "_reasons"
  n_Trail__places : NoAttr K C_Trail "_places"
  n_Trail__starts : NoAttr K C_Trail "_starts"
  n_Trail__tickets : NoAttr K C_Trail "_tickets"
  n_Trail__next_ticket : NoAttr K C_Trail "_next_ticket"
  M_Trail_init : Meth K C_Trail "__init__" f_Trail_init
  M_Trail_choose : Meth K C_Trail "choose" f_Trail_choose
  M_Trail_force : Meth K C_Trail "force" f_Trail_force
  M_Trail_back : Meth K C_Trail "back" f_Trail_back
  M_Trail_value : Meth K C_Trail "value" f_Trail_value
  M_Trail_level_of : Meth K C_Trail "level_of" f_Trail_level_of
  M_Trail_reason_of : Meth K C_Trail "reason_of" f_Trail_reason_of
  M_Trail_place_of : Meth K C_Trail "place_of" f_Trail_place_of
  M_Trail_literals : Meth K C_Trail "literals" f_Trail_literals
  M_Trail_sizes : Meth K C_Trail "sizes" f_Trail_sizes
  M_Trail_depth : Meth K C_Trail "depth" f_Trail_depth
  M_Trail_contains : Meth K C_Trail "__contains__" f_Trail_contains
  M_Trail_put : Meth K C_Trail "_put" f_Trail_put
  M_Trail_refuse_unknown : Meth K C_Trail "_refuse_unknown" f_Trail_refuse_unknown
  M_Trail_refuse_unless_open : Meth K C_Trail "_refuse_unless_open" f_Trail_refuse_unless_open
  in_Trail : OWN.InC K C_Trail f_Trail_contains
  m_len : mg "len" = none
  m_int : mg "int" = none
  m_abs : mg "abs" = none
  m_min : mg "min" = none
  m_max : mg "max" = none
  m_isinstance : mg "isinstance" = none
  m_range : mg "range" = none
  m_bool : mg "bool" = none
  m_list : mg "list" = none
  m_tuple : mg "tuple" = none
  m_reversed : mg "reversed" = none
  m_ValueError : mg "ValueError" = none
  C_BadLiteral : Addr
  c_BadLiteral : mg "BadLiteral" = some (.ref C_BadLiteral)
  C_PaperError : Addr
  c_PaperError : mg "PaperError" = some (.ref C_PaperError)
  C_BadModel : Addr
  c_BadModel : mg "BadModel" = some (.ref C_BadModel)
  C_BadName : Addr
  c_BadName : mg "BadName" = some (.ref C_BadName)
  C_BadNode : Addr
  c_BadNode : mg "BadNode" = some (.ref C_BadNode)
  C_BadRatio : Addr
  c_BadRatio : mg "BadRatio" = some (.ref C_BadRatio)
  C_BadSort : Addr
  c_BadSort : mg "BadSort" = some (.ref C_BadSort)
  C_BadText : Addr
  c_BadText : mg "BadText" = some (.ref C_BadText)
  C_NameTaken : Addr
  c_NameTaken : mg "NameTaken" = some (.ref C_NameTaken)
  C_NoAnswer : Addr
  c_NoAnswer : mg "NoAnswer" = some (.ref C_NoAnswer)
  C_NoLevel : Addr
  c_NoLevel : mg "NoLevel" = some (.ref C_NoLevel)
  C_UnknownName : Addr
  c_UnknownName : mg "UnknownName" = some (.ref C_UnknownName)
  xb_PaperError : X2.XB K C_PaperError
  xo_BadLiteral : X2.XO K C_BadLiteral f_BadLiteral_init "literal"
  e_BadLiteral_BadLiteral : PySem.W.exmOne K (.ref C_BadLiteral) (.ref C_BadLiteral) = some true
  e_BadLiteral_PaperError : PySem.W.exmOne K (.ref C_BadLiteral) (.ref C_PaperError) = some true
  k_BadLiteral_PaperError : PySem.W.kitOne K (.ref C_BadLiteral) (.ref C_PaperError) = some true
  k_BadLiteral_BadLiteral : PySem.W.kitOne K (.ref C_BadLiteral) (.ref C_BadLiteral) = some true
  k_BadLiteral_ValueError : PySem.W.kitOne K (.ref C_BadLiteral) (.type "ValueError") = some true
  i_1 : PySem.W.kitAny K (.ref C_BadLiteral) [.ref C_BadModel, .ref C_BadName, .ref C_BadNode, .ref C_BadRatio, .ref C_BadSort] = some false
  i_2 : PySem.W.kitAny K (.ref C_BadLiteral) [.ref C_BadText, .ref C_NameTaken, .ref C_NoAnswer, .ref C_NoLevel, .ref C_UnknownName] = some false
end L

namespace L
open PySem PySem.Spec PyProof.Rows L2 Z
section
variable {P : Program} {w : World} {K : PySem.W.Frag} {mg : Str → Option Value} {base : Heap}
def spPool (K : PySem.W.Frag) : Sp := fun vs H Q _ => ∃ (a : Addr) (ns : List Int) (k : Int), vs = [.ref a, .int k] ∧ SqL K H a (ns.map V.int) ∧ ns.length ≤ 1000 ∧ 0 ≤ k ∧ k < 2 ^ 62 ∧ ∀ q o, H q = none → IsPool o → Q (.ref q) (upd H q o)
def spTake : Sp := fun vs H Q _ => ∃ (q : Addr) (o : HO) (n : Int), vs = [.ref q, .int n] ∧ H q = some o ∧ IsPool o ∧ 0 < n ∧ n < 1073741824 ∧ ∀ r o', 0 ≤ r → r < n → IsPool o' → Q (.int r) (upd H q o')
theorem ok_take (T : Txt K mg) : FnOk P w K mg base CX0 1 T.f_take T.fd_take ["_law_pool_here", "_law_size"] spTake := by
  refine T.F_take.ok sc_take (fun vs H Q E h => ?_) (fun cdv A outer s H vs Q E hr h => ?_)
  · obtain ⟨q, o, n, rfl, _⟩ := h
    rfl
  · obtain ⟨q, o, n, rfl, ho, ⟨c, k, b, s', rfl⟩, hn, hn2, hq⟩ := h
    refine ⟨_, (pss_cons (ps_set (i := 2) sc_take.nd rfl (.inl rfl) (pe_ix ix_list (pv 0) pe_int (fun _ _ => rfl)))
 (pss_cons (ps_asg (pe_op op_add (pv 2) pe_int) (pg_sub (pv 0) pe_int set_list))
 (pss_cons (ps_set (i := 3) sc_take.nd rfl (.inl rfl) (pe_ix ix_list (pv 0) pe_int (fun _ _ => rfl)))
 (pss_cons (ps_if (PW.pt (pw_and (pt_val (pe_ix ix_list (pv 0) pe_int (fun _ _ => rfl))) (pw_and1 (pt_cmpR op_gt (pv 3) pe_int (nomark _))))) (pss_cons (ps_asg (pe_op op_fdiv (pv 3) (pv 1)) (pg_sub (pv 0) pe_int set_list))
 (pss_one (ps_ret (pe_op op_mod (pe_callTy call_int1 (by rfl) T.m_int (by decide +kernel) (pa_cons (pv 3) pa_nil)) (pv 1))))) pss_nil)
 (pss_cons (ps_if (pt_val (pe_ix ix_list (pv 0) pe_int (fun _ _ => rfl))) (pss_one (ps_set (i := 3) sc_take.nd rfl (.inl rfl) (pe_ix ix_list (pv 0) pe_int (fun _ _ => rfl)))) pss_nil)
 (pss_cons (ps_set (i := 4) sc_take.nd rfl (.inl rfl) (pe_op op_mod (pe_callTy call_int1 (by rfl) T.m_int (by decide +kernel) (pa_cons (pe_op op_add (pe_op op_add (pv 3) (pe_op op_mul pe_int (pv 2))) pe_int) pa_nil)) pe_int))
 (pss_cons (ps_set (i := 4) sc_take.nd rfl (.inl rfl) (pe_op op_mod (pe_callTy call_int1 (by rfl) T.m_int (by decide +kernel) (pa_cons (pe_op op_mul (pv 4) (pe_op op_add (pv 4) pe_int)) pa_nil)) pe_int))
 (pss_cons (ps_set (i := 4) sc_take.nd rfl (.inl rfl) (pe_op op_mod (pe_callTy call_int1 (by rfl) T.m_int (by decide +kernel) (pa_cons (pe_op op_add (pe_op op_mul (pv 4) (pe_op op_add (pv 4) pe_int)) (pe_op op_mul pe_int (pv 2))) pa_nil)) pe_int))
 (pss_one (ps_ret (pe_op op_mod (pe_callTy call_int1 (by rfl) T.m_int (by decide +kernel) (pa_cons (pe_op op_fdiv (pv 4) pe_int) pa_nil)) (pv 1)))))))))))), ?_⟩
    refine Z.w_start (σ' := [some (.ref q), some (.int n), none, none, none]) rfl ?_
    walk_at "w"
    cases b with
    | true =>
      walk_at "w"
      walk_at "wi"
      all_goals walk_at "w"
      all_goals exact hq _ _ (Int.emod_nonneg _ (by omega)) (Int.emod_lt_of_pos _ hn) ⟨_, _, _, _, rfl⟩
    | false =>
      walk_at "w"
      all_goals exact hq _ _ (Int.emod_nonneg _ (by omega)) (Int.emod_lt_of_pos _ hn) ⟨_, _, _, _, rfl⟩
theorem ok_pool (T : Txt K mg) : FnOk P w K mg base CX0 1 T.f_pool T.fd_pool ["_law_script", "_law_k"] (spPool K) := by
  refine T.F_pool.ok sc_pool (fun vs H Q E h => ?_) (fun cdv A outer s H vs Q E hr h => ?_)
  · obtain ⟨a, ns, k, rfl, _⟩ := h
    rfl
  · obtain ⟨a, ns, k, rfl, hS, hl, hk, hk2, hq⟩ := h
    refine ⟨_, (pss_cons (ps_set (i := 2) sc_pool.nd rfl (.inl rfl) (pe_op op_add (pe_op op_mul pe_int (pv 1)) pe_int))
 (pss_cons (ps_set (i := 3) sc_pool.nd rfl (.inl rfl) (pe_op op_add (pe_op op_mul pe_int (pv 1)) pe_int))
 (pss_cons (ps_if (pt_cmpR op_lt (pv 1) (pe_callB call_len_seq (by rfl) T.m_len (by decide +kernel) (pa_cons (pv 0) pa_nil)) (nomark _)) (pss_one (ps_set (i := 2) sc_pool.nd rfl (.inl rfl) (pe_ix ix_list (pv 0) (pv 1) (fun _ _ => rfl)))) pss_nil)
 (pss_cons (ps_if (pt_cmpR op_lt (pe_op op_add (pv 1) pe_int) (pe_callB call_len_seq (by rfl) T.m_len (by decide +kernel) (pa_cons (pv 0) pa_nil)) (nomark _)) (pss_one (ps_set (i := 3) sc_pool.nd rfl (.inl rfl) (pe_ix ix_list (pv 0) (pe_op op_add (pv 1) pe_int) (fun _ _ => rfl)))) pss_nil)
 (pss_one (ps_ret (pe_lst (pa_cons (pv 2) (pa_cons pe_int (pa_cons (pe_cmpR op_ge (pv 2) (pe_op op_pow pe_int pe_int) (nomark _)) (pa_cons (pv 3) pa_nil))))))))))), ?_⟩
    refine Z.w_start (σ' := [some (.ref a), some (.int k), none, none]) rfl ?_
    by_cases h1 : k < ns.length
    · obtain ⟨z1, a1, _⟩ := pick hk h1
      by_cases h2 : k + 1 < ns.length
      · obtain ⟨z2, a2, _⟩ := pick (by omega) h2
        walk_at "w"
        exact hq _ _ (by assumption) ⟨_, _, _, _, rfl⟩
      · walk_at "w"
        exact hq _ _ (by assumption) ⟨_, _, _, _, rfl⟩
    · walk_at "w"
      exact hq _ _ (by assumption) ⟨_, _, _, _, rfl⟩
end
end L

namespace L
open PySem PySem.Spec PyProof.Rows L2 Z
section
variable {P : Program} {w : World} {K : PySem.W.Frag} {mg : Str → Option Value} {base : Heap}
def spWhole : Sp := fun vs H Q _ => ∃ i : Int, vs = [.int i] ∧ Q (.bl true) H
theorem use_whole {i : Int} {H : Hp} {Q : VK} {E : XK} (q : Q (.bl true) H) : spWhole [.int i] H Q E := ⟨i, rfl, q⟩
theorem ok_whole (T : Txt K mg) : FnOk P w K mg base CX0 1 T.f_whole T.fd_whole ["_law_value"] spWhole := by
  refine T.F_whole.ok sc_whole (fun vs H Q E h => ?_) (fun cdv A outer s H vs Q E hr h => ?_)
  · obtain ⟨i, rfl, _⟩ := h
    rfl
  · obtain ⟨i, rfl, hq⟩ := h
    refine ⟨_, (pss_one (ps_ret (pe_and (pe_callB call_isi (by rfl) T.m_isinstance (by decide +kernel) (pa_cons (pv 0) (pa_cons (pe_bltn (v := .ty "int") (by rfl) T.m_int (by decide +kernel) rfl) pa_nil))) (pe_one (pe_not (pe_callB call_isi (by rfl) T.m_isinstance (by decide +kernel) (pa_cons (pv 0) (pa_cons (pe_bltn (v := .ty "bool") (by rfl) T.m_bool (by decide +kernel) rfl) pa_nil)))))))), ?_⟩
    refine Z.w_start (σ' := [some (.int i)]) rfl ?_
    walk_at "w"
    exact hq
end
end L

namespace M
open PySem PySem.Spec PyProof.Rows L2
/-- strictly ascending by absolute values -/
def Asc (ys : List Int) : Prop := ys.Pairwise fun i j => i.natAbs < j.natAbs
theorem asc_uniq : ∀ ys zs : List Int, Asc ys → Asc zs → (∀ x, x ∈ ys ↔ x ∈ zs) → ys = zs
  | [], [], _, _, _ => rfl
  | [], z :: zs, _, _, h => absurd ((h z).mpr List.mem_cons_self) (by simp)
  | y :: ys, [], _, _, h => absurd ((h y).mp List.mem_cons_self) (by simp)
  | y :: ys, z :: zs, hy, hz, h => by
    obtain ⟨hy1, hy2⟩ := List.pairwise_cons.mp hy
    obtain ⟨hz1, hz2⟩ := List.pairwise_cons.mp hz
    have e : y = z := by
      rcases List.mem_cons.mp ((h y).mp List.mem_cons_self) with e | m
      · exact e
      · rcases List.mem_cons.mp ((h z).mpr List.mem_cons_self) with e | m2
        · exact e.symm
        · have a := hz1 y m
          have b := hy1 z m2
          omega
    subst e
    have t : ys = zs := asc_uniq ys zs hy2 hz2 fun x => by
      constructor
      · intro m
        rcases List.mem_cons.mp ((h x).mp (List.mem_cons_of_mem _ m)) with e | m2
        · have := hy1 x m
          rw [e] at this
          omega
        · exact m2
      · intro m
        rcases List.mem_cons.mp ((h x).mpr (List.mem_cons_of_mem _ m)) with e | m2
        · have := hz1 x m
          rw [e] at this
          omega
        · exact m2
    rw [t]
def Clash (ls : List Int) : Prop := ∃ l ∈ ls, -l ∈ ls
/-- the clause of a list -/
def ClOf (ls ys : List Int) : Prop := Asc ys ∧ ∀ x, x ∈ ys ↔ x ∈ ls
/-- nondecreasing and without a clash and twins -/
theorem asc_of {ys : List Int} (h : ys.Pairwise fun i j => i.natAbs ≤ j.natAbs) (hn : ys.Nodup) (hc : ¬ Clash ys) : Asc ys := by
  unfold Asc
  have h2 := h.and hn
  refine List.Pairwise.imp_of_mem ?_ h2
  intro a b ha hb ⟨h1, h3⟩
  rcases Nat.lt_or_ge a.natAbs b.natAbs with h4 | h4
  · exact h4
  · exfalso
    have : a = b ∨ a = -b := by omega
    rcases this with e | e
    · exact h3 e
    · exact hc ⟨b, hb, by rw [← e]; exact ha⟩
/-- a dict of kept ints -/
def kd (ks : List Int) : List (Key × V) := ks.map fun k => (Sum.inl k, V.bl true)
theorem kd_get (ks : List Int) (x : Int) : (valV (kd ks) (Sum.inl x)).isSome = decide (x ∈ ks) := by
  rw [← valV_any]
  unfold kd
  rw [List.any_map]
  induction ks with
  | nil => rfl
  | cons k r ih =>
    rw [List.any_cons, ih]
    simp only [Function.comp, List.mem_cons]
    by_cases h : k = x
    · subst h; simp
    · have h' : ¬ (Sum.inl k : Key) = Sum.inl x := fun z => h (Sum.inl.inj z)
      have h'' : ¬ x = k := fun z => h z.symm
      simp [h', h'']
theorem kd_keys (ks : List Int) : (kd ks).map (·.1) = ks.map Sum.inl := by
  unfold kd
  rw [List.map_map]
  rfl
theorem kd_len (ks : List Int) : (kd ks).length = ks.length := by
  unfold kd
  rw [List.length_map]
theorem kd_put (ks : List Int) (x : Int) : putK (kd ks) (Sum.inl x) (.bl true) = kd (if x ∈ ks then ks else ks ++ [x]) := by
  by_cases h : x ∈ ks
  · rw [if_pos h]
    unfold putK
    have e : (valV (kd ks) (Sum.inl x)).isSome = true := by rw [kd_get]; exact decide_eq_true h
    rw [valV_any, if_pos e]
    unfold kd
    rw [List.map_map]
    refine List.map_congr_left fun k _ => ?_
    simp only [Function.comp]
    split <;> rfl
  · rw [if_neg h, putK_new]
    · unfold kd
      rw [List.map_append]
      rfl
    · have e : (valV (kd ks) (Sum.inl x)).isSome = false := by rw [kd_get]; exact decide_eq_false h
      exact Option.isNone_iff_eq_none.mp (by rw [← Option.not_isSome, e]; rfl)
theorem inV_int (x : Int) (ls : List Int) : inV (.int x) (ls.map V.int) = decide (x ∈ ls) := by
  unfold inV
  rw [List.any_map]
  induction ls with
  | nil => rfl
  | cons k r ih =>
    rw [List.any_cons, ih]
    have e : eqV (.int k) (.int x) = decide (k = x) := by
      first | rfl | simp [eqV]
    simp only [Function.comp, e, List.mem_cons]
    by_cases h : k = x
    · subst h; simp
    · have h'' : ¬ x = k := fun z => h z.symm
      simp [h, h'']
theorem flat_ints (ls : List Int) : (ls.map V.int).all flatV = true := by
  rw [List.all_map]
  exact List.all_eq_true.mpr fun _ _ => rfl
/-- what is kept so far: the taken ones, each once, without a clash -/
def KeptI (ls : List Int) (i : Nat) (ks : List Int) : Prop := ks.Nodup ∧ (∀ x, x ∈ ks ↔ x ∈ ls.take i) ∧ ¬ Clash ks ∧ ks.length ≤ i
theorem kept_zero (ls : List Int) : KeptI ls 0 [] := ⟨List.nodup_nil, fun x => by simp, fun ⟨_, h, _⟩ => by simp at h, Nat.le_refl _⟩
theorem kept_next {ls ks : List Int} {i : Nat} {l : Int} (h : KeptI ls i ks) (hl : ls[i]? = some l) (h0 : l ≠ 0) (hc : -l ∉ ks) : KeptI ls (i + 1) (if l ∈ ks then ks else ks ++ [l]) := by
  obtain ⟨h1, h2, h3, h4⟩ := h
  have ht : ls.take (i + 1) = ls.take i ++ [l] := by rw [List.take_add_one, hl]; rfl
  by_cases hm : l ∈ ks
  · rw [if_pos hm]
    refine ⟨h1, fun x => ?_, h3, by omega⟩
    rw [ht, List.mem_append, h2 x]
    constructor
    · exact fun z => .inl z
    · rintro (z | z)
      · exact z
      · rw [List.mem_singleton.mp z]
        exact (h2 l).mp hm
  · rw [if_neg hm]
    refine ⟨?_, fun x => by rw [ht, List.mem_append, List.mem_append, h2 x], ?_, by rw [List.length_append, List.length_singleton]; omega⟩
    · rw [List.nodup_append]
      refine ⟨h1, List.nodup_cons.mpr ⟨by simp, List.nodup_nil⟩, fun a ha b hb e => ?_⟩
      rw [List.mem_singleton.mp hb] at e
      exact hm (e ▸ ha)
    · rintro ⟨x, hx, hx2⟩
      rcases List.mem_append.mp hx with a | a <;> rcases List.mem_append.mp hx2 with b | b
      · exact h3 ⟨x, a, b⟩
      · have e := List.mem_singleton.mp b
        have : x = -l := by omega
        rw [this] at a
        exact hc a
      · rw [List.mem_singleton.mp a] at b
        exact hc b
      · have e1 := List.mem_singleton.mp a
        have e2 := List.mem_singleton.mp b
        omega
end M
namespace M
open PySem PySem.Spec PyProof.Rows L2
/-- the due so far, by the sizes that were looked at -/
def DueI (ls ns : List Int) (i : Nat) (D : List Int) : Prop := Asc D ∧ (∀ x, x ∈ D ↔ x ∈ ls ∧ (x.natAbs : Int) ∈ ns.take i) ∧ D.length ≤ i
theorem due_zero (ls ns : List Int) : DueI ls ns 0 [] := ⟨List.Pairwise.nil, fun x => by simp, Nat.le_refl _⟩
theorem due_next {ls ns D : List Int} {i : Nat} {s lit : Int} (h : DueI ls ns i D) (hs : ns.Pairwise (· ≤ ·)) (hi : ns[i]? = some s) (hn : ∀ x ∈ ls, -x ∉ ls) (hl : lit ∈ ls) (ha : (lit.natAbs : Int) = s) :
    DueI ls ns (i + 1) (if lit ∈ D then D else D ++ [lit]) := by
  obtain ⟨h1, h2, h3⟩ := h
  have ht : ns.take (i + 1) = ns.take i ++ [s] := by rw [List.take_add_one, hi]; rfl
  have one : ∀ x ∈ ls, (x.natAbs : Int) = s → x = lit := by
    intro x hx e
    have : x = lit ∨ x = -lit := by omega
    rcases this with e | e
    · exact e
    · rw [e] at hx
      exact absurd hx (hn lit hl)
  have mem : ∀ x, (x ∈ ls ∧ (x.natAbs : Int) ∈ ns.take (i + 1)) ↔ (x ∈ D ∨ x = lit) := by
    intro x
    rw [ht, List.mem_append, List.mem_singleton, h2 x]
    constructor
    · rintro ⟨a, b | b⟩
      · exact .inl ⟨a, b⟩
      · exact .inr (one x a b)
    · rintro (⟨a, b⟩ | b)
      · exact ⟨a, .inl b⟩
      · rw [b]
        exact ⟨hl, .inr ha⟩
  by_cases hm : lit ∈ D
  · rw [if_pos hm]
    refine ⟨h1, fun x => ?_, by omega⟩
    rw [mem]
    constructor
    · exact .inl
    · rintro (a | a)
      · exact a
      · rw [a]
        exact hm
  · rw [if_neg hm]
    refine ⟨?_, fun x => ?_, by rw [List.length_append, List.length_singleton]; omega⟩
    · unfold Asc
      rw [List.pairwise_append]
      refine ⟨h1, List.pairwise_singleton _ _, fun x hx y hy => ?_⟩
      rw [List.mem_singleton.mp hy]
      obtain ⟨a, b⟩ := (h2 x).mp hx
      have p := hs.sublist (List.take_sublist (i + 1) ns)
      rw [ht, List.pairwise_append] at p
      have le := p.2.2 _ b s (List.mem_singleton.mpr rfl)
      have ne : (x.natAbs : Int) ≠ s := by
        intro e
        exact hm ((one x a e) ▸ hx)
      omega
    · rw [mem, List.mem_append, List.mem_singleton]
theorem due_end {ls ns D : List Int} (h : DueI ls ns ns.length D) (hp : ns.Perm (ls.map fun l : Int => (l.natAbs : Int))) : ClOf ls D := by
  refine ⟨h.1, fun x => ?_⟩
  rw [h.2.1, List.take_length]
  constructor
  · exact fun z => z.1
  · exact fun z => ⟨z, hp.mem_iff.mpr (List.mem_map.mpr ⟨x, z, rfl⟩)⟩
end M

namespace L
open PySem PySem.Spec PyProof.Rows L2 Z DT
/-! heaps: what stays -/
/-- all but lists stay -/
def Mo (H H' : Hp) : Prop := ∀ b x, (∀ l, x ≠ HO.lst l) → H b = some x → H' b = some x
/-- all but lists and dicts stay -/
def Tu (H H' : Hp) : Prop := ∀ b x, (∀ l, x ≠ HO.lst l) → (∀ l, x ≠ HO.dK l) → H b = some x → H' b = some x
section
variable {H H' H1 H2 : Hp} {p q d : Addr} {o : HO}
theorem Mo.refl (H : Hp) : Mo H H := fun _ _ _ e => e
theorem Mo.trans (a : Mo H H1) (b : Mo H1 H2) : Mo H H2 := fun c x n e => b c x n (a c x n e)
theorem Mo.of (s : Same H H') : Mo H H' := fun b x _ e => s b x e
theorem Mo.new (m : Mo H H') (h : H' p = none) : Mo H (upd H' p o) := fun b x n e => by
  rw [upd_ne (ne_of_none (m b x n e) h)]
  exact m b x n e
theorem Mo.own (m : Mo H H') (h : H p = none) : Mo H (upd H' p o) := fun b x n e => by
  rw [upd_ne (ne_of_none e h)]
  exact m b x n e
theorem Mo.lst {l : List V} (m : Mo H H') (h : H p = some (.lst l)) : Mo H (upd H' p o) := fun b x n e => by
  rw [upd_ne (fun z => by subst z; rw [h] at e; exact n _ (Option.some.inj e).symm)]
  exact m b x n e
theorem Tu.of (m : Mo H H') : Tu H H' := fun b x n _ e => m b x n e
theorem Tu.ofS (m : Same H H') : Tu H H' := fun b x _ _ e => m b x e
theorem Tu.trans (a : Tu H H1) (b : Tu H1 H2) : Tu H H2 := fun c x n n2 e => b c x n n2 (a c x n n2 e)
theorem Tu.dict {kvs : List (Key × V)} (h : H d = some (.dK kvs)) : Tu H (upd H d o) := fun b x n n2 e => by
  rw [upd_ne (fun z => by subst z; rw [h] at e; exact n2 _ (Option.some.inj e).symm)]
  exact e
def PoolAt (H : Hp) (q : Addr) : Prop := ∃ o, H q = some o ∧ IsPool o
structure PX (q : Addr) (H H' : Hp) : Prop where
  mo : Mo H H'
  pl : PoolAt H' q
  sx : ∀ b x, b ≠ q → H b = some x → H' b = some x
theorem PX.trans (a : PX q H H1) (b : PX q H1 H2) : PX q H H2 := ⟨a.1.trans b.1, b.2, fun c x n e => b.3 c x n (a.3 c x n e)⟩
theorem PoolAt.same (h : PoolAt H q) (s : Same H H') : PoolAt H' q := by
  obtain ⟨o, h1, h2⟩ := h
  exact ⟨o, s _ _ h1, h2⟩
theorem PX.same (a : PX q H H1) (b : Same H1 H2) : PX q H H2 := ⟨a.1.trans (.of b), a.2.same b, fun c x n e => b c x (a.3 c x n e)⟩
theorem PX.refl (h : PoolAt H q) : PX q H H := ⟨.refl H, h, fun _ _ _ e => e⟩
theorem PX.new (a : PX q H H1) (h : H1 p = none) : PX q H (upd H1 p o) := a.same (same_of (Same.refl _) h)
theorem PX.take (h : PoolAt H q) (hp : IsPool o) : PX q H (upd H q o) := by
  obtain ⟨o', h1, c, k, b, s, rfl⟩ := h
  exact ⟨(Mo.refl H).lst h1, ⟨o, upd_same, hp⟩, fun b x n e => by rw [upd_ne n]; exact e⟩
theorem PX.dict (a : PX q H H1) {kvs : List (Key × V)} {o2 : HO} (h : H d = none) (h1 : H1 d = some (.dK kvs)) (e : o2 = o2) : PX q H (upd H1 d o2) := by
  refine ⟨a.1.own h, ?_, fun b x n e => by rw [upd_ne (ne_of_none e h)]; exact a.3 b x n e⟩
  obtain ⟨o', h2, hp⟩ := a.2
  refine ⟨o', ?_, hp⟩
  rw [upd_ne]
  · exact h2
  · rintro rfl
    rw [h2] at h1
    obtain ⟨c, k, b, s, rfl⟩ := hp
    cases h1
theorem PX.own (h : H q = none) (a : PX q (upd H q o) H') : Same H H' := fun b x e => a.3 b x (ne_of_none e h) (by rw [upd_ne (ne_of_none e h)]; exact e)
end
section
variable {K : PySem.W.Frag} {H H' : Hp}
theorem sqT_tu {a : Addr} {xs : List V} (h : SqT K H a xs) (s : Tu H H') : SqT K H' a xs := by
  rcases h with (h | ⟨o, h⟩) | h
  · exact .inl (.inl (s _ _ (fun l e => by cases e) (fun l e => by cases e) h))
  · exact .inl (.inr ⟨o, s _ _ (fun l e => by cases e) (fun l e => by cases e) h⟩)
  · exact .inr h
theorem w_tdget {td ty : TE} {σ : L2.St} {Q : VK} (h : td σ H fun x H1 => ty σ H1 fun y H2 => ∃ a v, x = .ref a ∧ DGet H2 a y (some v) ∧ Q v H2) : tDGet td ty σ H Q := h
theorem w_tdget2 {td ty tx : TE} {σ : L2.St} {Q : VK} (h : td σ H fun x H1 => ∃ a, x = .ref a ∧ IsD H1 a ∧ ty σ H1 fun y H2 => tx σ H2 fun z H3 => ∃ o, DGet H3 a y o ∧ Q (o.getD z) H3) : tDGet2 td ty tx σ H Q := h
theorem seqIf {tt : TT} {t t' u : TS} {D : Ends} {σ : L2.St} (k : L2.St → Hp → Prop) (h : ∀ R : L2.St → Hp → Prop, (∀ σ' H', k σ' H' → R σ' H') → tIfS tt t t' { D with nx := R } σ H) (hk : ∀ σ' H', k σ' H' → u D σ' H') : tSeq (tIfS tt t t') u D σ H := h (u D) hk
theorem seqAnd {ta tb : TE} {g : TG} {u : TS} {D : Ends} {σ : L2.St} (k : V → Hp → Prop) (h : ∀ Q : VK, (∀ x H1, k x H1 → Q x H1) → tAndV ta tb σ H Q) (hk : ∀ x H1, k x H1 → g x σ H1 (u D)) : tSeq (tAsg (tAndV ta tb) g) u D σ H := h _ hk
end
end L
namespace L
open PySem PySem.Spec PyProof.Rows L2 Z DT
theorem PX.refl' {q : Addr} {H H' : Hp} (h : PX q H H') : PoolAt H' q := h.2
section
variable {P : Program} {w : World} {K : PySem.W.Frag} {mg : Str → Option Value} {base : Heap}
theorem tyx_T {H : Hp} {a : Addr} {xs : List V} (h : SqT K H a xs) : TyX K H (.ref a) (.type "tuple") := by
  rcases h with (h | ⟨o, h⟩) | ⟨o, its, n, h, c, _⟩
  · exact .base (.tup h)
  · exact .fTuple h
  · exact .kTuple h c
theorem w_isiT_T {H : Hp} {p : Addr} {xs : List V} {Q : VK} (h : SqT K H p xs) (q : Q (.bl true) H) : rIsi K [.ref p, .ty "tuple"] H Q := w_isi (.ty _) (tyx_T h) (kit_ty (by decide +kernel)) q
theorem use_takeP {q : Addr} {n : Int} {H : Hp} {Q : VK} {E : XK} (h : PoolAt H q) (h1 : 0 < n) (h2 : n < 1073741824) (hq : ∀ r H', PX q H H' → 0 ≤ r → r < n → Q (.int r) H') : spTake [.ref q, .int n] H Q E := by
  obtain ⟨o, ho, hp⟩ := id h
  exact ⟨q, o, n, rfl, ho, hp, h1, h2, fun r o' a b c => hq r _ (.take h c) a b⟩
end
end L

namespace X2
open PySem PySem.Spec PyProof.Rows L2
theorem w_ost1 {K : PySem.W.Frag} {σ : L2.St} {H : Hp} {D : Ends} {f : Str} {a C : Addr} {y : V} {j k : Nat} (e1 : σ[k]? = some (some y)) (e2 : σ[j]? = some (some (.ref a))) (T : OexC K C) (no : PySem.W.findIn K (.ref C) f = some none) (h : H a = some (exo a C none)) (q : ∀ dx, H dx = none → dx ≠ a → D.nx σ (upd (upd H dx (exd dx [(f, y)])) a (exo a C (some dx)))) :
    tOst K f (tVar j) (tVar k) D σ H := ⟨y, e1, .ref a, e2, a, C, rfl, T, no, .inl ⟨h, q⟩⟩
end X2
namespace X2
open PySem PySem.Spec PyProof.Rows L2
open _root_.SX (S S_len S_cat)
section
variable {σ : L2.St} {H : Hp} {Q : VK} {te t : TE} {ts : List TE} {a m : List Nat} {R : Str → Hp → Prop}
def rFmt : V → Hp → VK → Prop := fun x H1 Q => (∃ y : Str, x = .str y ∧ y.length ≤ sizeLine ∧ Q (.str y) H1) ∨ ∃ i : Int, x = .int i ∧ i.natAbs.log2 < 1920 ∧ Q (.str (toString i)) H1
theorem w_fmt (h : te σ H fun x H1 => rFmt x H1 Q) : tFmt te σ H Q := h
theorem use_fmt (hl : m.length ≤ 100000) (q : Q (.str (S m)) H) : rFmt (.str (S m)) H Q := .inl ⟨_, rfl, by rw [S_len]; exact Nat.le_trans hl (by decide), q⟩
def rJ (ts : List TE) (acc : Str) (σ : L2.St) : V → Hp → (Str → Hp → Prop) → Prop := fun x H1 R => ∃ y : Str, x = .str y ∧ (acc ++ y).length ≤ sizeLine ∧ tJs ts (acc ++ y) σ H1 R
theorem w_j0 (h : tJs ts (S []) σ H R) : tJs ts Str.empty σ H R := h
theorem w_j1 {acc : Str} (h : t σ H fun x H1 => rJ ts acc σ x H1 R) : tJs (t :: ts) acc σ H R := h
theorem use_j (hl : (a ++ m).length ≤ 100000) (h : tJs ts (S (a ++ m)) σ H R) : rJ ts (S a) σ (.str (S m)) H R := ⟨_, rfl, by rw [S_cat, S_len]; exact Nat.le_trans hl (by decide), by rw [S_cat]; exact h⟩
theorem w_fmtI1 {i : Int} {j : Nat} (e : σ[j]? = some (some (.int i))) (hi : i.natAbs < 10 ^ 60) (q : Q (.str (S (MT.nz i))) H) : tFmtR (tVar j) σ H Q := w_fmtI e (log_int hi) (by rw [← MT.S_nz] at q; exact q)
theorem nz_len60 {i : Int} (hi : i.natAbs < 10 ^ 60) : (MT.nz i).length ≤ 61 := by
  have k := TL.numL_len (n := i.natAbs) (k := 60) (by decide) hi
  unfold MT.nz
  split
  · rw [List.length_cons]
    omega
  · omega
theorem w_jn1 {acc : Str} (h : R acc H) : tJs [] acc σ H R := h
end
end X2

namespace X2
open PySem PySem.Spec PyProof.Rows L2
/-- C(e, ..) as what is raised, told with its context, where nothing is handled -/
theorem pmkN {X : Cx} {CW : CXT} {x : Str} {e : Expr} {es : List Expr} {ta : TA} {p pos : Pos} {C fI : Addr} {k : Nat} {fd : FuncData} {ps : List Str} {sp : Sp} (T : OexC X.K C)
    (ic : PySem.W.findIn X.K (.ref C) "__init__" = some (some (.ref fI))) (ti : PySem.W.typeIn X.K (.ref fI) = some (.type "function"))
    (G : FnOk X.prog X.w X.K X.mg X.base CW k fI fd ps sp) (room : Room (k + 1) X.A) (bi : Binds X.K fd ps []) (pass : Passes CW X (fun _ _ _ => False)) (gl : Gl X x) (mm : X.mg x = some (.ref C)) (ha : PA X (e :: es) ta)
    (hdb : (x == ("__debug__" : Str)) = false := by decide) (he : starEach (e :: es) X.env = (false, eval e X.env) :: starEach es X.env := by rfl) (hpl : (backTo pos (starEach es X.env)).any (·.1) = false := by rfl) :
    L2N.PMk X (.Call (.Name x p) (e :: es) [] pos) (tMkO C sp [] ta) := by
  intro pins s σ H R J q0
  obtain ⟨c1, c2, c3, c4, bm, c5, c6, c7, c8, c9, c10, c11, c12, c13, c14, hC, hbm⟩ := T.cls
  refine wpAny_Call_Name_kw (ld_glob J gl mm ?_ hdb)
  refine PySem.W.callWith_K (h₀ := X.base) J.ok.mod.kin T.kC (thn (ha.run pos pins s σ H _ J q0) fun args t1 w1 => ?_) he hpl
  obtain ⟨vals, Hs, J1, rel, small, cont⟩ := w1
  refine ⟨J1.kIn, ?_⟩
  show wpAny _ _ (call (.ref C) args) _ _ _
  obtain ⟨hp, gs, dr, tk, os⟩ := t1
  let N := hp.objs.size + 1
  have le : hp.objs.size ≤ N := Nat.le_succ _
  have free : Hs N = none := J1.hok.fresh le
  have wish := cont N free
  let h2 := (hp.push (PySem.W.kdv_tup args)).push (PySem.HandSPX.excO C hp.objs.size)
  have keep : ∀ b o, hp.get? b = some o → h2.get? b = some o := fun b o z => Heap.get?_push_of_some _ (Heap.get?_push_of_some _ z)
  have made : h2.get? N = some (PySem.HandSPX.excO C hp.objs.size) := by
    show Heap.get? (Heap.push (hp.push (PySem.W.kdv_tup args)) (PySem.HandSPX.excO C hp.objs.size)) (hp.objs.size + 1) = _
    heap_get
  have J2 : Inv X pins σ (upd Hs N (exo N C none)) ⟨h2, gs, dr, tk, os⟩ := J1.laid (t' := tk) (a := N) (o := exo N C none) (h' := h2) keep le (exo_ok made)
  have rel2 : Vals (V.ref N :: (vals ++ [])) (Value.ref N :: (args ++ [])) := .cons rfl (rel.append .nil)
  have cnt : (Value.ref N :: args ++ []).length = ps.length := by
    have z := rel2.length
    rw [G.len _ _ _ _ wish] at z
    exact z.symm
  have fit : args.length ≤ sizeLine := by
    rw [← Paired.length rel, sizeLine_eq]
    omega
  have run := G.run _ X.stack _ _ ⟨Value.ref N :: args, []⟩ (Value.ref N :: (args ++ [])) _ _ (fun _ _ _ => False) (room.make C args []) (J2.env0.make C args []) (show BindsTo _ fd ⟨Value.ref N :: args, []⟩ (ps.zip (Value.ref N :: (args ++ []))) from bi _ (Value.ref N :: args) J2.kIn cnt) rel2 wish
  refine wpAny_call (PySem.HandSPX.call_own F.excBase_ValueError (fun Y => PySem.HandSPX.refsVE_contains Y bm hbm) (J1.kIn _ _ hC) (PySem.W.looks_findIn J1.kIn ic) (fun self => PySem.W.bind_fn J1.kIn self ti) fit (codeAny_mono run fun r t2 out => ?_))
  cases r with
  | error er => exact pass pins σ _ _ er t2 J2 out
  | ok fl =>
    cases fl with
    | ret u =>
      obtain ⟨v, H2, os2, bare2, un2, ok2, rv, ev, d, fs, ea, ed, hd1, q2⟩ := out
      subst ev
      obtain ⟨hh, g2, d2, t2', os'⟩ := t2
      refine ⟨rv, ?_⟩
      obtain ⟨t0, G0, Jn, kG, gone, there, na⟩ := mk_end0 (d2 := d2) (t2 := t2') J1 le keep un2 ok2 os2 bare2 ea ed hd1
      exact ⟨N, _, _, ⟨G0, g2, d2, t2', os'⟩, _, .ref C, some d, rfl, Jn, kG, gone, there, ⟨rfl, rfl, fun vs z => by cases z; rfl⟩, rfl, rfl, na, rfl, bare2, raises_own T.exC T.tyC, q2⟩
    | next => exact out.elim
    | brk => exact out.elim
    | cont => exact out.elim
/-- in a suite over an exception whose context is told -/
theorem hot_of {X : Cx} {a : Addr} {oe : Obj} {cls : Value} {d : Option Addr} {pn : List (Addr × Obj)} (hz : L2N.Zn cls d oe) (hf : ∃ vs, oe.data = .fields vs) : L2H.HotC (X.suite a ((a, oe) :: pn)) := by
  obtain ⟨vs, hv⟩ := hf
  exact ⟨(a, oe), ⟨rfl, vs, hv, hz.2.2 vs hv⟩, List.mem_cons_self⟩
end X2
namespace X2
open PySem PySem.Spec PyProof.Rows L2
section
variable {P : Program} {w : World} {K : PySem.W.Frag} {mg : Str → Option Value} {base : Heap} {x qual : Str} {st : Stmt} {f : Addr} {fd : FuncData} {N ps : List Str} {k : Nat} {sp : Sp}
/-- a def that may raise, what flies told with its context -/
theorem okN (F : Fun K x qual st f fd) (S : FnScope N ps (defScope st)) (len : ∀ vs H Q E, sp vs H Q E → vs.length = ps.length)
    (b : ∀ (cdv : Value) (A : Around) (outer : List Env) (s : Shared) (H : Hp) (vs : List V) (Q : VK) (E : XK), Room k (A.deeper (envOfC qual (defScope st) s.heap.objs.size f cdv)) → sp vs H Q E → ∃ t, PSs (cxOf (L2N.CX P w) P w K mg base N qual (defScope st) f cdv A outer s H E) (defBody st) t ∧ t { nx := fun _ H' => Q .non H', rt := Q } (start N vs) H) :
    FnOk P w K mg base (L2N.CX P w) (k + 1) f fd ps sp := by
  obtain ⟨_, _, _, _, _, _, _, _, _, rfl, place, code⟩ := F.ex
  exact fn_of place code S len fun A outer s H vs Q E room want => b _ A outer s H vs Q E room want
/-- a def that is called while an exception is handled -/
theorem okH (F : Fun K x qual st f fd) (S : FnScope N ps (defScope st)) (len : ∀ vs H Q E, sp vs H Q E → vs.length = ps.length)
    (b : ∀ (cdv : Value) (A : Around) (outer : List Env) (s : Shared) (H : Hp) (vs : List V) (Q : VK) (E : XK) (p : Addr × Obj), L2H.Hot1 A p → L2H.RoomH k (A.deeper (envOfC qual (defScope st) s.heap.objs.size f cdv)) → sp vs H Q E →
      ∃ t, PSs (L2H.cxH CX0 P w K mg base N qual (defScope st) f cdv A outer s H E p) (defBody st) t ∧ t { nx := fun _ H' => Q .non H', rt := Q } (start N vs) H) : L2H.FnH P w K mg base CX0 (k + 1) f fd ps sp := by
  obtain ⟨_, _, _, _, _, _, _, _, _, rfl, place, code⟩ := F.ex
  exact L2H.fn_ofH place code S len fun A outer s H vs Q E p hot room want => b _ A outer s H vs Q E p hot room want
end
theorem passN {X : Cx} : Passes (L2N.CX X.prog X.w) X E0 := fun _ _ _ _ _ _ _ h => by
  obtain ⟨_, _, _, _, _, _, _, _, _, _, _, _, no⟩ := h
  exact no.elim
theorem takesN {X : Cx} : L2N.Takes X (fun _ _ _ _ => False) := fun _ _ x => by
  obtain ⟨_, _, _, _, _, _, _, _, _, _, _, _, _, _, _, _, no⟩ := x
  exact no.elim
theorem passH {X : Cx} {E : L2.St → XK} : ∀ σ, PassesAt CX0 X σ (E σ) := fun _ _ _ _ _ _ _ h => h.elim
theorem w_callSH {sp : Sp} {E : L2.St → XK} {t1 : TA} {σ : L2.St} {H : Hp} {Q : VK} (h : t1 σ H fun vs H1 => sp vs H1 Q (E σ)) : tCallS sp E t1 σ H Q := h
end X2

local macro_rules | `(tactic| walk_at "w1") => `(tactic| first
  | with_reducible refine X2.w_j0 ?_
  | with_reducible refine X2.w_j1 ?_
  | ((with_reducible refine' X2.use_j ?wh ?_); (case wh => walk_at "len"))
  | with_reducible refine X2.w_jn1 ?_
  | with_reducible refine X2.w_fmt ?_
  | ((with_reducible refine' X2.use_fmt ?wh ?_); (case wh => walk_at "len"))
  | fail "w1")

namespace X2
open PySem PySem.Spec PyProof.Rows L2
theorem roomM {k : Nat} {A : Around} (r : Room k A) (h : Option Value) : L2H.RoomH k (A.mark h) := ⟨r.dp, r.un⟩
theorem passH0 {X : Cx} : ∀ σ : L2.St, PassesAt CX0 X σ E0 := fun _ _ _ _ _ _ _ h => h.elim
end X2

local macro_rules | `(tactic| walk_at "w1") => `(tactic| first
  | ((with_reducible refine' X2.w_xfv ?ws ?wd ?wl ?_); (case ws => exact rfl); (case wd => walk_at "hp"); (case wl => (first | exact rfl | decide | simp)))
  | ((with_reducible refine' MT.w_strI ?wh ?_); (case wh => omega))
  | ((with_reducible refine Z.w_iteNF ?wh ?_); (case wh => exact rfl))
  | ((with_reducible refine Z.w_iteNT ?wh ?_); (case wh => (intro h; cases h; done)))
  | ((with_reducible refine' Z.w_rNe ?wh ?_); (case wh => exact rfl))
  | with_reducible refine X2.w_callSH ?_
  | fail "w1")

namespace L
open PySem PySem.Spec PyProof.Rows L2 Z M MR
/-! the trail's objects -/
def rV : Option Int → V
  | none => .non
  | some i => .int i
def nV (ns : List Nat) : List V := ns.map fun n : Nat => V.int (n : Int)
def plk (rs : List TRow) : List (Key × V) := rs.zipIdx.map fun p => (Sum.inl p.1.1, V.int ((p.2 : Nat) : Int))
def lits (rs : List TRow) : List Int := rs.map (·.1)
/-- no node stands twice -/
def NoTwin (rs : List TRow) : Prop := (rs.map fun r => r.1.natAbs).Nodup
structure TrO where
  dx : Addr
  dn : Addr
  ll : Addr
  lv : Addr
  lr : Addr
  dp : Addr
  ls : Addr
  lt : Addr
def TrO.fs (t : TrO) (n : Int) : List (Str × V) := [("_nodes", .ref t.dn), ("_literals", .ref t.ll), ("_levels", .ref t.lv), ("_reasons", .ref t.lr), ("_places", .ref t.dp), ("_starts", .ref t.ls), ("_tickets", .ref t.lt), ("_next_ticket", .int n)]
structure TrAt (C : Addr) (H : Hp) (o : Addr) (t : TrO) (ns : List Int) (rs : List TRow) : Prop where
  ob : ∃ n, H o = some (.ins C t.dx (t.fs n))
  nd : ∃ kn, H t.dn = some (.dK kn) ∧ ∀ i : Int, (valV kn (Sum.inl i)).isSome = decide (i ∈ ns)
  li : H t.ll = some (.lst ((lits rs).map V.int))
  le : H t.lv = some (.lst (nV (levs rs)))
  re : H t.lr = some (.lst (rs.map fun r => rV r.2))
  pl : H t.dp = some (.dK (plk rs))
  st : H t.ls = some (.lst (nV (starts rs)))
  ti : ∃ ts, H t.lt = some (.lst ts) ∧ ts.length = rs.length
  df : [t.ll, t.lv, t.lr, t.ls, t.lt].Nodup ∧ t.dn ≠ t.dp
theorem plk_val : ∀ (rs : List TRow) (j : Nat) (l : Int), valV (rs.zipIdx j |>.map fun p => ((Sum.inl p.1.1 : Key), V.int ((p.2 : Nat) : Int))) (Sum.inl l) = ((lits rs).idxOf? l).map fun i => V.int ((i + j : Nat) : Int)
  | [], j, l => rfl
  | r :: rs, j, l => by
    rw [List.zipIdx_cons, List.map_cons]
    show valV _ _ = ((r.1 :: lits rs).idxOf? l).map _
    rw [List.idxOf?_cons]
    by_cases h : r.1 = l
    · rw [valV_pos (p := (Sum.inl r.1, V.int (j : Int))) (by rw [h])]
      simp [h]
    · have hn : ¬ (Sum.inl r.1 : Key) = Sum.inl l := fun z => h (Sum.inl.inj z)
      rw [valV_neg (p := (Sum.inl r.1, V.int (j : Int))) hn, plk_val rs (j + 1) l]
      have e : (r.1 == l) = false := beq_eq_false_iff_ne.mpr h
      rw [e]
      simp only [Bool.false_eq_true, if_false, Option.map_map]
      congr 1
      funext i
      show V.int ((i + (j + 1) : Nat) : Int) = V.int ((i + 1 + j : Nat) : Int)
      congr 2
      omega
end L
namespace L
open PySem PySem.Spec PyProof.Rows L2 Z M MR
theorem plk_get (rs : List TRow) (l : Int) : valV (plk rs) (Sum.inl l) = ((lits rs).idxOf? l).map fun i : Nat => V.int (i : Int) := plk_val rs 0 l
theorem plk_some (rs : List TRow) (l : Int) : (valV (plk rs) (Sum.inl l)).isSome = decide (l ∈ lits rs) := by
  rw [plk_get, Option.isSome_map]
  by_cases h : l ∈ lits rs
  · rw [decide_eq_true h]
    cases e : (lits rs).idxOf? l with
    | some _ => rfl
    | none => exact absurd h (List.idxOf?_eq_none_iff.mp e)
  · rw [decide_eq_false h, List.idxOf?_eq_none_iff.mpr h]
    rfl
def val (rs : List TRow) (i : Int) : V := if i ∈ lits rs then .bl true else if -i ∈ lits rs then .bl false else .non
/-- where the node of a literal stands -/
def plc (rs : List TRow) (i : Int) : Option Nat := match (lits rs).idxOf? i with
  | some k => some k
  | none => (lits rs).idxOf? (-i)
def oV : Option Nat → V
  | some k => .int (k : Int)
  | none => .non
theorem plc_in {rs : List TRow} {i : Int} (h : i ∈ lits rs) : ∃ k, (lits rs).idxOf? i = some k ∧ plc rs i = some k := by
  cases e : (lits rs).idxOf? i with
  | some k => exact ⟨k, rfl, by unfold plc; rw [e]⟩
  | none => exact absurd h (List.idxOf?_eq_none_iff.mp e)
theorem plc_not {rs : List TRow} {i : Int} (h : i ∉ lits rs) : plc rs i = (lits rs).idxOf? (-i) := by
  unfold plc
  rw [List.idxOf?_eq_none_iff.mpr h]
end L
namespace L
open PySem PySem.Spec PyProof.Rows L2 Z M MR
theorem nV_len (ns : List Nat) : (nV ns).length = ns.length := List.length_map _
theorem atI_getD {xs : List V} {k : Nat} (h : k < xs.length) : atI xs (k : Int) = some (xs.getD k .non) := by
  rw [atI_nat (List.getElem?_eq_getElem h), List.getD_eq_getElem?_getD, List.getElem?_eq_getElem h]
  rfl
end L

namespace L
open PySem PySem.Spec PyProof.Rows L2 Z M MR MT X2
open _root_.SX (S S_len S_cat S_inj)
section
variable {P : Program} {w : World} {K : PySem.W.Frag} {mg : Str → Option Value} {base : Heap}
theorem w_fldT {C o dx : Addr} {f : Str} {v : V} {fs : List (Str × V)} {σ : L2.St} {H : Hp} {Q : VK} (hc : Cls K C) (hn : NoAttr K C f) (h1 : H o = some (.ins C dx fs)) (hl : fs.lookup f = some v) (q : Q v H) : tFld K (tVar 0) f (some (.ref o) :: σ) H Q :=
  Z.w_var (v := V.ref o) rfl ⟨o, C, dx, _, _, rfl, h1, hc, hn, hl, q⟩
theorem abs_nat (i : Int) : (if i < 0 then -i else i) = (i.natAbs : Int) := by split <;> omega
def spBadLit (C : Addr) : Sp := fun vs H Q E => ∃ i : Int, i.natAbs < 10 ^ 60 ∧ InitEnd C "literal" (.int i) vs H Q E
theorem ok_badlit (T : Txt K mg) : FnOk P w K mg base CX0 1 T.f_BadLiteral_init T.fd_BadLiteral_init ["self", "literal"] (spBadLit T.C_BadLiteral) := by
  refine T.F_BadLiteral_init.ok sc_BadLiteral_init (fun vs H Q E h => ?_) (fun cdv A outer s H vs Q E hr h => ?_)
  · obtain ⟨i, _, a, rfl, _⟩ := h
    rfl
  · obtain ⟨i, hi, a, rfl, ha, h⟩ := h
    refine ⟨_, (pss_cons (ps_expr (X2.pe_binit (by rfl) T.c_PaperError T.xb_PaperError (pa_cons (pv 0) (pa_cons (pe_joined (PJ.cons (MT.pe_strS (l := [116, 104, 101, 32, 108, 105, 116, 101, 114, 97, 108, 32]) (by decide +kernel)) (PJ.cons (pe_fmtR (pv 1)) (PJ.cons (MT.pe_strS (l := lit_0) (by decide +kernel)) PJ.nil)))) pa_nil))))
 (pss_one (ps_ost (pv 0) (pv 1)))), ?_⟩
    refine Z.w_start (σ' := [some (.ref a), some (.int i)]) rfl ?_
    have hl := nz_len60 hi
    refine w_seq (w_drop (w_veI ?_))
    walk_at "w"
    refine w_fmtI1 rfl hi ?_
    have h18 : lit_0.length = 18 := rfl
    refine use_j (by rw [List.nil_append, List.length_append]; simp only [List.length_cons, List.length_nil]; omega) ?_
    walk_at "w"
    refine use_veI T.xo_BadLiteral.ox ha ?_
    exact w_ost1 rfl rfl T.xo_BadLiteral.ox T.xo_BadLiteral.no ha h
theorem use_badlit {C : Addr} {i : Int} (hi : i.natAbs < 10 ^ 60) (vs : List V) (H : Hp) (Q : VK) (E : XK) (h : InitEnd C "literal" (.int i) vs H Q E) : spBadLit C vs H Q E := ⟨i, hi, h⟩
/-- a refusal -/
def Refu (C : Addr) (i : Int) (H : Hp) (E : XK) : Prop := ∀ d H', Same H H' → H' d = some (.xd [("literal", .int i)]) → E (.ref C) (some d) H'
def spRefU (CT C : Addr) : Sp := fun vs H Q E => ∃ (o : Addr) (t : TrO) (ns : List Int) (rs : List TRow) (i : Int), vs = [.ref o, .int i] ∧ TrAt CT H o t ns rs ∧ i.natAbs < 10 ^ 60 ∧ ((i.natAbs : Int) ∈ ns → Q .non H) ∧ ((i.natAbs : Int) ∉ ns → Refu C i H E)
theorem ok_refU (T : Txt K mg) : FnOk P w K mg base (L2N.CX P w) 3 T.f_Trail_refuse_unknown T.fd_Trail_refuse_unknown ["self", "literal"] (spRefU T.C_Trail T.C_BadLiteral) := by
  have G_BadLiteral_init := ok_badlit (P := P) (w := w) (base := base) T
  refine okN T.F_Trail_refuse_unknown sc_Trail_refuse_unknown (fun vs H Q E h => ?_) (fun cdv A outer s H vs Q E hr h => ?_)
  · obtain ⟨o, t, ns, rs, i, rfl, _⟩ := h
    rfl
  · obtain ⟨o, t, ns, rs, i, rfl, ht, hi, h1, h2⟩ := h
    refine ⟨_, (pss_one (ps_if (pt_cmp (pc_dnotin (hu_of hr) (pe_callB call_abs (by rfl) T.m_abs (by decide +kernel) (pa_cons (pv 1) pa_nil)) (pe_fld (pv 0) rfl))) (pss_one (L2N.ps_raise rfl (L2N.takes_of rfl rfl rfl rfl) (X2.pmkN T.xo_BadLiteral.ox T.xo_BadLiteral.ii T.xo_BadLiteral.ti G_BadLiteral_init (hr.mono (by first | decide | omega)) T.b_BadLiteral_init pass0 (by rfl) T.c_BadLiteral (pa_cons (pv 1) pa_nil)))) pss_nil)), ?_⟩
    refine Z.w_start (σ' := [some (.ref o), some (.int i)]) rfl ?_
    obtain ⟨n, ob⟩ := ht.ob
    obtain ⟨kn, hk, hv⟩ := ht.nd
    walk_at "w"
    refine w_fldT T.cl_Trail T.n_Trail__nodes ob rfl ?_
    rw [abs_nat]
    refine ⟨t.dn, _, rfl, DGet.k (k := Sum.inl (i.natAbs : Int)) hk, ?_⟩
    rw [hv]
    by_cases hm : (i.natAbs : Int) ∈ ns
    · rw [decide_eq_true hm]
      walk_at "w"
      exact h1 hm
    · rw [decide_eq_false hm]
      walk_at "w"
      refine w_mkO ?_
      walk_at "w"
      exact use_mk (use_badlit hi) fun d hd => h2 hm _ _ (same_of (Same.refl _) hd) upd_same
end
end L

namespace L
open PySem PySem.Spec PyProof.Rows L2 Z M MR MT X2
open _root_.SX (S S_len S_cat S_inj)
section
variable {P : Program} {w : World} {K : PySem.W.Frag} {mg : Str → Option Value} {base : Heap}
theorem w_tdget1 {td ty : TE} {σ : L2.St} {H : Hp} {Q : VK} (h : td σ H fun x H1 => ∃ a, x = .ref a ∧ IsD H1 a ∧ ty σ H1 fun y H2 => ∃ o, DGet H2 a y o ∧ Q (o.getD .non) H2) : tDGet1 td ty σ H Q := h
/-- a question about one literal: refused unless its node is known -/
def spAsk1 (CT C : Addr) (f : List TRow → Int → V) : Sp := fun vs H Q E => ∃ (o : Addr) (t : TrO) (ns : List Int) (rs : List TRow) (i : Int), vs = [.ref o, .int i] ∧ TrAt CT H o t ns rs ∧ i.natAbs < 10 ^ 60 ∧ rs.length ≤ 100 ∧ ((i.natAbs : Int) ∈ ns → Q (f rs i) H) ∧ ((i.natAbs : Int) ∉ ns → Refu C i H E)
theorem w_meth0 {C o dx : Addr} {m : Str} {sp : Sp} {E : XK} {t : TA} {i : Nat} {fs : List (Str × V)} {σ : L2.St} {H : Hp} {Q : VK} (h1 : H o = some (.ins C dx fs)) (hσ : σ[i]? = some (some (.ref o))) (hm : fs.lookup m = none) (q : t σ H fun vs H2 => sp (.ref o :: (vs ++ [])) H2 Q E) : tMeth C m sp [] E (tVar i) t σ H Q :=
  Z.w_var hσ ⟨o, dx, _, rfl, h1, hm, q⟩
theorem ok_value (T : Txt K mg) : FnOk P w K mg base (L2N.CX P w) 4 T.f_Trail_value T.fd_Trail_value ["self", "literal"] (spAsk1 T.C_Trail T.C_BadLiteral val) := by
  have G_Trail_refuse_unknown := ok_refU (P := P) (w := w) (base := base) T
  refine okN T.F_Trail_value sc_Trail_value (fun vs H Q E h => ?_) (fun cdv A outer s H vs Q E hr h => ?_)
  · obtain ⟨o, t, ns, rs, i, rfl, _⟩ := h
    rfl
  · obtain ⟨o, t, ns, rs, i, rfl, ht, hi, hl, h1, h2⟩ := h
    obtain ⟨n, ob⟩ := ht.ob
    refine ⟨_, (pss_cons (ps_expr (pe_meth (pv 0) T.cl_Trail T.M_Trail_refuse_unknown G_Trail_refuse_unknown (hr.mono (by first | decide | omega)) T.b_Trail_refuse_unknown .nil (L2N.passes_call (L2N.takes_of rfl rfl rfl rfl) fun _ _ _ _ h => h) (pa_cons (pv 1) pa_nil)))
 (pss_cons (ps_if (pt_cmp (pc_din (hu_of hr) (pv 1) (pe_fld (pv 0) rfl))) (pss_one (ps_ret pe_bl)) pss_nil)
 (pss_one (ps_ret (pe_ifExp (pt_cmp (pc_din (hu_of hr) (pe_un un_neg (pv 1)) (pe_fld (pv 0) rfl))) pe_bl pe_non))))), ?_⟩
    refine Z.w_start (σ' := [some (.ref o), some (.int i)]) rfl ?_
    walk_at "w"
    refine w_meth0 ob rfl (by rfl) ?_
    walk_at "w"
    refine ⟨o, t, ns, rs, i, rfl, ht, hi, fun hm => ?_, fun hm => h2 hm⟩
    have hq := h1 hm
    unfold val at hq
    walk_at "w"
    refine w_fldT T.cl_Trail T.n_Trail__places ob rfl ?_
    refine ⟨t.dp, _, rfl, DGet.k (k := Sum.inl i) ht.pl, ?_⟩
    rw [plk_some]
    by_cases e1 : i ∈ lits rs
    · rw [if_pos e1] at hq
      rw [decide_eq_true e1]
      walk_at "w"
      exact hq
    · rw [if_neg e1] at hq
      rw [decide_eq_false e1]
      walk_at "w"
      refine w_fldT T.cl_Trail T.n_Trail__places ob rfl ?_
      refine ⟨t.dp, _, rfl, DGet.k (k := Sum.inl (-i)) ht.pl, ?_⟩
      rw [plk_some]
      by_cases e2 : -i ∈ lits rs
      · rw [if_pos e2] at hq
        rw [decide_eq_true e2]
        walk_at "w"
        exact hq
      · rw [if_neg e2] at hq
        rw [decide_eq_false e2]
        walk_at "w"
        exact hq
theorem ok_place (T : Txt K mg) : FnOk P w K mg base (L2N.CX P w) 4 T.f_Trail_place_of T.fd_Trail_place_of ["self", "literal"] (spAsk1 T.C_Trail T.C_BadLiteral fun rs i => oV (plc rs i)) := by
  have G_Trail_refuse_unknown := ok_refU (P := P) (w := w) (base := base) T
  refine okN T.F_Trail_place_of sc_Trail_place_of (fun vs H Q E h => ?_) (fun cdv A outer s H vs Q E hr h => ?_)
  · obtain ⟨o, t, ns, rs, i, rfl, _⟩ := h
    rfl
  · obtain ⟨o, t, ns, rs, i, rfl, ht, hi, hl, h1, h2⟩ := h
    obtain ⟨n, ob⟩ := ht.ob
    refine ⟨_, (pss_cons (ps_expr (pe_meth (pv 0) T.cl_Trail T.M_Trail_refuse_unknown G_Trail_refuse_unknown (hr.mono (by first | decide | omega)) T.b_Trail_refuse_unknown .nil (L2N.passes_call (L2N.takes_of rfl rfl rfl rfl) fun _ _ _ _ h => h) (pa_cons (pv 1) pa_nil)))
 (pss_cons (ps_if (pt_cmp (pc_din (hu_of hr) (pv 1) (pe_fld (pv 0) rfl))) (pss_one (ps_ret (pe_dget (hu_of hr) (pe_fld (pv 0) rfl) (pv 1) (fun _ _ => rfl)))) pss_nil)
 (pss_one (ps_ret (pe_dget1 (hu_of hr) (pe_fld (pv 0) rfl) (pe_un un_neg (pv 1)) ⟨rfl, rfl, rfl, rfl⟩))))), ?_⟩
    refine Z.w_start (σ' := [some (.ref o), some (.int i)]) rfl ?_
    walk_at "w"
    refine w_meth0 ob rfl (by rfl) ?_
    walk_at "w"
    refine ⟨o, t, ns, rs, i, rfl, ht, hi, fun hm => ?_, fun hm => h2 hm⟩
    have hq : Q (oV (plc rs i)) H := h1 hm
    walk_at "w"
    refine w_fldT T.cl_Trail T.n_Trail__places ob rfl ?_
    refine ⟨t.dp, _, rfl, DGet.k (k := Sum.inl i) ht.pl, ?_⟩
    rw [plk_some]
    by_cases e1 : i ∈ lits rs
    · rw [decide_eq_true e1]
      obtain ⟨k, k1, k2⟩ := plc_in e1
      rw [k2] at hq
      walk_at "w"
      refine w_tdget ?_
      refine w_fldT T.cl_Trail T.n_Trail__places ob rfl ?_
      walk_at "w"
      refine ⟨t.dp, .int (k : Int), rfl, ?_, ?_⟩
      · have := DGet.k (k := Sum.inl i) ht.pl
        rw [plk_get, k1] at this
        exact this
      · exact hq
    · rw [decide_eq_false e1]
      rw [plc_not e1] at hq
      walk_at "w"
      refine w_tdget1 ?_
      refine w_fldT T.cl_Trail T.n_Trail__places ob rfl ?_
      refine ⟨t.dp, rfl, .inl ⟨_, .inl ht.pl⟩, ?_⟩
      walk_at "w"
      refine ⟨_, DGet.k (k := Sum.inl (-i)) ht.pl, ?_⟩
      rw [plk_get]
      cases e : (lits rs).idxOf? (-i) with
      | none =>
        rw [e] at hq
        exact hq
      | some k =>
        rw [e] at hq
        exact hq
/-- the item of a list at the place of a literal -/
def atP (f : List TRow → List V) (rs : List TRow) (i : Int) : V := match plc rs i with
  | some k => (f rs).getD k .non
  | none => .non
theorem plc_lt {rs : List TRow} {i : Int} {k : Nat} (h : plc rs i = some k) : k < rs.length := by
  have hk : ∀ j, (lits rs).idxOf? j = some k → k < rs.length := fun j e => by
    have e2 := List.idxOf?_eq_some_iff.mp e
    have := (List.findIdx?_eq_some_iff_getElem.mp e).1
    rwa [show (lits rs).length = rs.length from List.length_map _] at this
  unfold plc at h
  cases e : (lits rs).idxOf? i with
  | some j =>
    rw [e] at h
    obtain rfl := Option.some.inj h
    exact hk _ e
  | none =>
    rw [e] at h
    exact hk _ h
theorem ok_level (T : Txt K mg) : FnOk P w K mg base (L2N.CX P w) 5 T.f_Trail_level_of T.fd_Trail_level_of ["self", "literal"] (spAsk1 T.C_Trail T.C_BadLiteral (atP fun rs => nV (levs rs))) := by
  have G_Trail_place_of := ok_place (P := P) (w := w) (base := base) T
  refine okN T.F_Trail_level_of sc_Trail_level_of (fun vs H Q E h => ?_) (fun cdv A outer s H vs Q E hr h => ?_)
  · obtain ⟨o, t, ns, rs, i, rfl, _⟩ := h
    rfl
  · obtain ⟨o, t, ns, rs, i, rfl, ht, hi, hl, h1, h2⟩ := h
    obtain ⟨n, ob⟩ := ht.ob
    refine ⟨_, (pss_cons (ps_set (i := 2) sc_Trail_level_of.nd rfl (.inl rfl) (pe_meth (pv 0) T.cl_Trail T.M_Trail_place_of G_Trail_place_of (hr.mono (by first | decide | omega)) T.b_Trail_place_of .nil (L2N.passes_call (L2N.takes_of rfl rfl rfl rfl) fun _ _ _ _ h => h) (pa_cons (pv 1) pa_nil)))
 (pss_one (ps_ret (pe_ifExp (pt_cmpR op_isN (pv 2) pe_non (nomark _)) pe_non (pe_ix ix_list (pe_fld (pv 0) rfl) (pv 2) (fun _ _ => rfl)))))), ?_⟩
    refine Z.w_start (σ' := [some (.ref o), some (.int i), none]) rfl ?_
    walk_at "w"
    refine w_meth0 ob rfl (by rfl) ?_
    walk_at "w"
    refine ⟨o, t, ns, rs, i, rfl, ht, hi, hl, fun hm => ?_, fun hm => h2 hm⟩
    have hq : Q (atP (fun rs => nV (levs rs)) rs i) H := h1 hm
    unfold atP at hq
    cases e : plc rs i with
    | none =>
      rw [e] at hq
      walk_at "w"
      rw [e]
      refine Z.w_iteT rfl ?_
      walk_at "w"
      exact hq
    | some k =>
      rw [e] at hq
      have hk := plc_lt e
      walk_at "w"
      rw [e]
      refine Z.w_iteF (fun z => by cases z) ?_
      walk_at "w"
      refine w_fldT T.cl_Trail T.n_Trail__levels ob rfl ?_
      have hS : SqL K H t.lv (nV (levs rs)) := .inl (.inl ht.le)
      have ha := atI_getD (xs := nV (levs rs)) (k := k) (by rw [nV_len, levs_len]; exact hk)
      refine Z.w_var (v := V.int (k : Int)) rfl ?_
      walk_at "w"
      exact hq
theorem ok_reason (T : Txt K mg) : FnOk P w K mg base (L2N.CX P w) 5 T.f_Trail_reason_of T.fd_Trail_reason_of ["self", "literal"] (spAsk1 T.C_Trail T.C_BadLiteral (atP fun rs => rs.map fun r => rV r.2)) := by
  have G_Trail_place_of := ok_place (P := P) (w := w) (base := base) T
  refine okN T.F_Trail_reason_of sc_Trail_reason_of (fun vs H Q E h => ?_) (fun cdv A outer s H vs Q E hr h => ?_)
  · obtain ⟨o, t, ns, rs, i, rfl, _⟩ := h
    rfl
  · obtain ⟨o, t, ns, rs, i, rfl, ht, hi, hl, h1, h2⟩ := h
    obtain ⟨n, ob⟩ := ht.ob
    refine ⟨_, (pss_cons (ps_set (i := 2) sc_Trail_reason_of.nd rfl (.inl rfl) (pe_meth (pv 0) T.cl_Trail T.M_Trail_place_of G_Trail_place_of (hr.mono (by first | decide | omega)) T.b_Trail_place_of .nil (L2N.passes_call (L2N.takes_of rfl rfl rfl rfl) fun _ _ _ _ h => h) (pa_cons (pv 1) pa_nil)))
 (pss_one (ps_ret (pe_ifExp (pt_cmpR op_isN (pv 2) pe_non (nomark _)) pe_non (pe_ix ix_list (pe_fld (pv 0) rfl) (pv 2) (fun _ _ => rfl)))))), ?_⟩
    refine Z.w_start (σ' := [some (.ref o), some (.int i), none]) rfl ?_
    walk_at "w"
    refine w_meth0 ob rfl (by rfl) ?_
    walk_at "w"
    refine ⟨o, t, ns, rs, i, rfl, ht, hi, hl, fun hm => ?_, fun hm => h2 hm⟩
    have hq : Q (atP (fun rs => rs.map fun r => rV r.2) rs i) H := h1 hm
    unfold atP at hq
    cases e : plc rs i with
    | none =>
      rw [e] at hq
      walk_at "w"
      rw [e]
      refine Z.w_iteT rfl ?_
      walk_at "w"
      exact hq
    | some k =>
      rw [e] at hq
      have hk := plc_lt e
      walk_at "w"
      rw [e]
      refine Z.w_iteF (fun z => by cases z) ?_
      walk_at "w"
      refine w_fldT T.cl_Trail T.n_Trail__reasons ob rfl ?_
      have hS : SqL K H t.lr (rs.map fun r => rV r.2) := .inl (.inl ht.re)
      have ha := atI_getD (xs := rs.map fun r => rV r.2) (k := k) (by rw [List.length_map]; exact hk)
      refine Z.w_var (v := V.int (k : Int)) rfl ?_
      walk_at "w"
      exact hq
/-- the literals -/
def spLits (C : Addr) : Sp := fun vs H Q _ => ∃ (o : Addr) (t : TrO) (ns : List Int) (rs : List TRow), vs = [.ref o] ∧ TrAt C H o t ns rs ∧ ∀ p, H p = none → Q (.ref p) (upd H p (.lst ((lits rs).map V.int)))
theorem ok_literals (T : Txt K mg) : FnOk P w K mg base CX0 1 T.f_Trail_literals T.fd_Trail_literals ["self"] (spLits T.C_Trail) := by
  refine T.F_Trail_literals.ok sc_Trail_literals (fun vs H Q E h => ?_) (fun cdv A outer s H vs Q E hr h => ?_)
  · obtain ⟨o, t, ns, rs, rfl, _⟩ := h
    rfl
  · obtain ⟨o, t, ns, rs, rfl, ht, h⟩ := h
    obtain ⟨n, ob⟩ := ht.ob
    have hli := ht.li
    refine ⟨_, (pss_one (ps_ret (pe_callTy call_list_of (by rfl) T.m_list (by decide +kernel) (pa_cons (pe_fld (pv 0) rfl) pa_nil)))), ?_⟩
    refine Z.w_start (σ' := [some (.ref o)]) rfl ?_
    walk_at "w"
    refine w_fldT T.cl_Trail T.n_Trail__literals ob rfl ?_
    walk_at "w"
    exact h
def spDepth (C : Addr) : Sp := fun vs H Q _ => ∃ (o : Addr) (t : TrO) (ns : List Int) (rs : List TRow), vs = [.ref o] ∧ TrAt C H o t ns rs ∧ Q (.int (dep rs : Int)) H
theorem ok_depth (T : Txt K mg) : FnOk P w K mg base CX0 1 T.f_Trail_depth T.fd_Trail_depth ["self"] (spDepth T.C_Trail) := by
  refine T.F_Trail_depth.ok sc_Trail_depth (fun vs H Q E h => ?_) (fun cdv A outer s H vs Q E hr h => ?_)
  · obtain ⟨o, t, ns, rs, rfl, _⟩ := h
    rfl
  · obtain ⟨o, t, ns, rs, rfl, ht, h⟩ := h
    obtain ⟨n, ob⟩ := ht.ob
    have hst := ht.st
    refine ⟨_, (pss_one (ps_ret (pe_callB call_len_seq (by rfl) T.m_len (by decide +kernel) (pa_cons (pe_fld (pv 0) rfl) pa_nil)))), ?_⟩
    refine Z.w_start (σ' := [some (.ref o)]) rfl ?_
    walk_at "w"
    refine w_fldT T.cl_Trail T.n_Trail__starts ob rfl ?_
    walk_at "w"
    rw [nV_len, starts_len]
    exact h
def spHas (C : Addr) : Sp := fun vs H Q _ => ∃ (o : Addr) (t : TrO) (ns : List Int) (rs : List TRow) (i : Int), vs = [.ref o, .int i] ∧ TrAt C H o t ns rs ∧ Q (.bl (decide (i ∈ lits rs))) H
theorem ok_has (T : Txt K mg) : FnOk P w K mg base CX0 1 T.f_Trail_contains T.fd_Trail_contains ["self", "x"] (spHas T.C_Trail) := by
  refine T.F_Trail_contains.ok sc_Trail_contains (fun vs H Q E h => ?_) (fun cdv A outer s H vs Q E hr h => ?_)
  · obtain ⟨o, t, ns, rs, i, rfl, _⟩ := h
    rfl
  · obtain ⟨o, t, ns, rs, i, rfl, ht, h⟩ := h
    obtain ⟨n, ob⟩ := ht.ob
    refine ⟨_, (pss_one (ps_ret (pe_cmp (pc_din (hu_of hr) (pv 1) (pe_fld (pv 0) rfl))))), ?_⟩
    refine Z.w_start (σ' := [some (.ref o), some (.int i)]) rfl ?_
    walk_at "w"
    refine w_fldT T.cl_Trail T.n_Trail__places ob rfl ?_
    refine ⟨t.dp, _, rfl, DGet.k (k := Sum.inl i) ht.pl, ?_⟩
    rw [plk_some]
    exact h
/-- a literal that may be put: its node is known and open -/
def spOpen (CT C : Addr) : Sp := fun vs H Q E => ∃ (o : Addr) (t : TrO) (ns : List Int) (rs : List TRow) (i : Int), vs = [.ref o, .int i] ∧ TrAt CT H o t ns rs ∧ i.natAbs < 10 ^ 60 ∧ rs.length ≤ 100 ∧ ((i.natAbs : Int) ∈ ns ∧ val rs i = .non → Q .non H) ∧ (¬ ((i.natAbs : Int) ∈ ns ∧ val rs i = .non) → Refu C i H E)
theorem ok_open (T : Txt K mg) : FnOk P w K mg base (L2N.CX P w) 5 T.f_Trail_refuse_unless_open T.fd_Trail_refuse_unless_open ["self", "literal"] (spOpen T.C_Trail T.C_BadLiteral) := by
  have G_Trail_value := ok_value (P := P) (w := w) (base := base) T
  have G_BadLiteral_init := ok_badlit (P := P) (w := w) (base := base) T
  refine okN T.F_Trail_refuse_unless_open sc_Trail_refuse_unless_open (fun vs H Q E h => ?_) (fun cdv A outer s H vs Q E hr h => ?_)
  · obtain ⟨o, t, ns, rs, i, rfl, _⟩ := h
    rfl
  · obtain ⟨o, t, ns, rs, i, rfl, ht, hi, hl, h1, h2⟩ := h
    obtain ⟨n, ob⟩ := ht.ob
    refine ⟨_, (pss_one (ps_if (pt_cmpR op_notN (pe_meth (pv 0) T.cl_Trail T.M_Trail_value G_Trail_value (hr.mono (by first | decide | omega)) T.b_Trail_value .nil (L2N.passes_call (L2N.takes_of rfl rfl rfl rfl) fun _ _ _ _ h => h) (pa_cons (pv 1) pa_nil)) pe_non (nomark _)) (pss_one (L2N.ps_raise rfl (L2N.takes_of rfl rfl rfl rfl) (X2.pmkN T.xo_BadLiteral.ox T.xo_BadLiteral.ii T.xo_BadLiteral.ti G_BadLiteral_init (hr.mono (by first | decide | omega)) T.b_BadLiteral_init pass0 (by rfl) T.c_BadLiteral (pa_cons (pv 1) pa_nil)))) pss_nil)), ?_⟩
    refine Z.w_start (σ' := [some (.ref o), some (.int i)]) rfl ?_
    walk_at "w"
    refine w_meth0 ob rfl (by rfl) ?_
    walk_at "w"
    refine ⟨o, t, ns, rs, i, rfl, ht, hi, hl, fun hm => ?_, fun hm => h2 fun z => hm z.1⟩
    by_cases e : val rs i = .non
    · have hq := h1 ⟨hm, e⟩
      walk_at "w"
      exact hq
    · have hq := h2 fun z => e z.2
      walk_at "w"
      refine w_mkO ?_
      walk_at "w"
      exact use_mk (use_badlit hi) fun d hd => hq _ _ (same_of (Same.refl _) hd) upd_same
end
end L

namespace L
open PySem PySem.Spec PyProof.Rows L2 Z M MR MT X2
open _root_.SX (S S_len S_cat S_inj)
section
variable {P : Program} {w : World} {K : PySem.W.Frag} {mg : Str → Option Value} {base : Heap}
theorem plk_snoc (rs : List TRow) (r : TRow) : plk (rs ++ [r]) = plk rs ++ [(Sum.inl r.1, V.int (rs.length : Int))] := by
  unfold plk
  rw [List.zipIdx_append, List.map_append]
  simp
theorem plk_len (rs : List TRow) : (plk rs).length = rs.length := by
  unfold plk
  rw [List.length_map, List.length_zipIdx]
/-- all but the trail's own objects stay -/
def TrX (o : Addr) (t : TrO) (H H' : Hp) : Prop := ∀ b x, b ∉ [o, t.ll, t.lv, t.lr, t.dp, t.ls, t.lt] → H b = some x → H' b = some x
theorem TrX.refl {o : Addr} {t : TrO} (H : Hp) : TrX o t H H := fun _ _ _ e => e
theorem TrX.trans {o : Addr} {t : TrO} {H H1 H2 : Hp} (a : TrX o t H H1) (b : TrX o t H1 H2) : TrX o t H H2 := fun c x n e => b c x n (a c x n e)
theorem ne_ins {H : Hp} {o b C dx : Addr} {fs : List (Str × V)} {u : HO} (h1 : H o = some (.ins C dx fs)) (h2 : H b = some u) (h : ∀ C dx fs, u ≠ .ins C dx fs) : o ≠ b := fun e => by
  subst e
  rw [h1] at h2
  exact h _ _ _ (Option.some.inj h2).symm
theorem ne_ld {H : Hp} {a b : Addr} {xs : List V} {kvs : List (Key × V)} (h1 : H a = some (.lst xs)) (h2 : H b = some (.dK kvs)) : a ≠ b := fun e => by
  subst e
  rw [h1] at h2
  cases h2
theorem TrX.put {o : Addr} {t : TrO} {H H1 : Hp} (a : TrX o t H H1) {b : Addr} {u : HO} (hb : b ∈ [o, t.ll, t.lv, t.lr, t.dp, t.ls, t.lt]) : TrX o t H (upd H1 b u) := fun c x n e => by
  rw [upd_ne (fun z => n (by rw [z]; exact hb))]
  exact a c x n e
/-- what putting a row asks: a fresh literal, the level told by the starts that are there -/
def spPut (C : Addr) : Sp := fun vs H Q _ => ∃ (o : Addr) (t : TrO) (ns : List Int) (rs : List TRow) (i : Int) (r : Option Int) (sts : List Nat), vs = [.ref o, .int i, rV r] ∧ (∃ H0, TrAt C H0 o t ns rs ∧ H = upd H0 t.ls (.lst (nV sts))) ∧ rs.length ≤ 100 ∧ i ∉ lits rs ∧ sts = starts (rs ++ [(i, r)]) ∧
  ∀ H', TrX o t H H' → TrAt C H' o t ns (rs ++ [(i, r)]) → Q .non H'
theorem w_fldaug {ta tv : TE} {rd : V → V → Hp → VK → Prop} {f : Str} {D : Ends} {σ : L2.St} {H : Hp} (h : ta σ H fun x H1 => ∃ a C dx fs v, x = .ref a ∧ H1 a = some (.ins C dx fs) ∧ Cls K C ∧ NoAttr K C f ∧ fs.lookup f = some v ∧
  tv σ H1 fun y H2 => rd v y H2 fun z H3 => ∃ dx' fs', H3 a = some (.ins C dx' fs') ∧ fs'.length < 1000 ∧ D.nx σ (upd H3 a (.ins C dx' (putF f z fs')))) : sFldAug K ta tv rd f D σ H := h
theorem lst_eq {H : Hp} {a : Addr} {xs ys : List V} (h : H a = some (.lst xs)) (e : xs = ys) : H a = some (.lst ys) := e ▸ h
theorem dK_eq {H : Hp} {a : Addr} {xs ys : List (Key × V)} (h : H a = some (.dK xs)) (e : xs = ys) : H a = some (.dK ys) := e ▸ h
theorem ok_put (T : Txt K mg) : FnOk P w K mg base CX0 1 T.f_Trail_put T.fd_Trail_put ["self", "literal", "reason"] (spPut T.C_Trail) := by
  refine T.F_Trail_put.ok sc_Trail_put (fun vs H Q E h => ?_) (fun cdv A outer s H vs Q E hr h => ?_)
  · obtain ⟨o, t, ns, rs, i, r, sts, rfl, _⟩ := h
    rfl
  · obtain ⟨o, t, ns, rs, i, r, sts, rfl, ⟨H0, ht, rfl⟩, hl, hn, hs, h⟩ := h
    obtain ⟨n, ob⟩ := ht.ob
    obtain ⟨kn, hk, hkv⟩ := ht.nd
    obtain ⟨ts, hts, htl⟩ := ht.ti
    have hli := ht.li
    have hle := ht.le
    have hre := ht.re
    have hpl := ht.pl
    have hst := ht.st
    obtain ⟨hdf, hdd⟩ := ht.df
    simp only [List.nodup_cons, List.mem_cons, List.not_mem_nil, or_false, not_or, not_false_eq_true, List.nodup_nil, and_true] at hdf
    obtain ⟨⟨a1, a2, a3, a4⟩, ⟨a5, a6, a7⟩, ⟨a8, a9⟩, a10⟩ := hdf
    have b1 := ne_ins ob hli (fun _ _ _ e => by cases e)
    have b2 := ne_ins ob hle (fun _ _ _ e => by cases e)
    have b3 := ne_ins ob hre (fun _ _ _ e => by cases e)
    have b4 := ne_ins ob hst (fun _ _ _ e => by cases e)
    have b5 := ne_ins ob hts (fun _ _ _ e => by cases e)
    have b6 := ne_ins ob hpl (fun _ _ _ e => by cases e)
    have b7 := ne_ins ob hk (fun _ _ _ e => by cases e)
    have c1 := ne_ld hli hpl
    have c2 := ne_ld hle hpl
    have c3 := ne_ld hre hpl
    have c4 := ne_ld hst hpl
    have c5 := ne_ld hts hpl
    have e1 := ne_ld hli hk
    have e2 := ne_ld hle hk
    have e3 := ne_ld hre hk
    have e4 := ne_ld hst hk
    have e5 := ne_ld hts hk
    refine ⟨_, (pss_cons (ps_dput (hu_of hr) (pe_fld (pv 0) rfl) (pv 1) (pe_callB call_len_seq (by rfl) T.m_len (by decide +kernel) (pa_cons (pe_fld (pv 0) rfl) pa_nil)) rfl)
 (pss_cons (ps_expr (pe_bm PySem.F.plainAttrs_list PySem.F.slot_list_append PySem.F.type_list_append mt_append (pe_fld (pv 0) rfl) (pa_cons (pv 1) pa_nil)))
 (pss_cons (ps_expr (pe_bm PySem.F.plainAttrs_list PySem.F.slot_list_append PySem.F.type_list_append mt_append (pe_fld (pv 0) rfl) (pa_cons (pe_callB call_len_seq (by rfl) T.m_len (by decide +kernel) (pa_cons (pe_fld (pv 0) rfl) pa_nil)) pa_nil)))
 (pss_cons (ps_expr (pe_bm PySem.F.plainAttrs_list PySem.F.slot_list_append PySem.F.type_list_append mt_append (pe_fld (pv 0) rfl) (pa_cons (pv 2) pa_nil)))
 (pss_cons (ps_expr (pe_bm PySem.F.plainAttrs_list PySem.F.slot_list_append PySem.F.type_list_append mt_append (pe_fld (pv 0) rfl) (pa_cons (pe_fld (pv 0) rfl) pa_nil)))
 (pss_one (ps_fldaug (pv 0) pe_int in_add))))))), ?_⟩
    refine Z.w_start (σ' := [some (.ref o), some (.int i), some (rV r)]) rfl ?_
    walk_at "w"
    refine w_fldT T.cl_Trail T.n_Trail__literals (fs := t.fs n) (dx := t.dx) (by walk_at "hp") rfl ?_
    walk_at "w"
    refine w_fldT T.cl_Trail T.n_Trail__places (fs := t.fs n) (dx := t.dx) (by walk_at "hp") rfl ?_
    walk_at "w"
    refine ⟨t.dp, _, rfl, DPut.k (k := Sum.inl i) (by walk_at "hp") (by rw [plk_len]; exact Nat.lt_of_le_of_lt hl (by decide)), ?_⟩
    walk_at "w"
    refine Z.w_bm ?_
    refine w_fldT T.cl_Trail T.n_Trail__literals (fs := t.fs n) (dx := t.dx) (by walk_at "hp") rfl ?_
    refine ⟨.inl ⟨rfl, _, .inl (.inl (by walk_at "hp"))⟩, ?_⟩
    walk_at "w"
    refine ⟨t.ll, _, _, rfl, rfl, by walk_at "hp", ?_, ?_⟩
    · rw [List.length_map, show (lits rs).length = rs.length from List.length_map _]
      exact Nat.lt_of_le_of_lt hl (by decide)
    walk_at "w"
    refine Z.w_bm ?_
    refine w_fldT T.cl_Trail T.n_Trail__levels (fs := t.fs n) (dx := t.dx) (by walk_at "hp") rfl ?_
    refine ⟨.inl ⟨rfl, _, .inl (.inl (by walk_at "hp"))⟩, ?_⟩
    walk_at "w"
    refine w_fldT T.cl_Trail T.n_Trail__starts (fs := t.fs n) (dx := t.dx) (by walk_at "hp") rfl ?_
    walk_at "w"
    refine ⟨t.lv, _, _, rfl, rfl, by walk_at "hp", ?_, ?_⟩
    · rw [nV_len, levs_len]
      exact Nat.lt_of_le_of_lt hl (by decide)
    walk_at "w"
    refine Z.w_bm ?_
    refine w_fldT T.cl_Trail T.n_Trail__reasons (fs := t.fs n) (dx := t.dx) (by walk_at "hp") rfl ?_
    refine ⟨.inl ⟨rfl, _, .inl (.inl (by walk_at "hp"))⟩, ?_⟩
    walk_at "w"
    refine ⟨t.lr, _, _, rfl, rfl, by walk_at "hp", ?_, ?_⟩
    · rw [List.length_map]
      exact Nat.lt_of_le_of_lt hl (by decide)
    walk_at "w"
    refine Z.w_bm ?_
    refine w_fldT T.cl_Trail T.n_Trail__tickets (fs := t.fs n) (dx := t.dx) (by walk_at "hp") rfl ?_
    refine ⟨.inl ⟨rfl, _, .inl (.inl (by walk_at "hp"))⟩, ?_⟩
    walk_at "w"
    refine w_fldT T.cl_Trail T.n_Trail__next_ticket (fs := t.fs n) (dx := t.dx) (by walk_at "hp") rfl ?_
    walk_at "w"
    refine ⟨t.lt, _, _, rfl, rfl, by walk_at "hp", ?_, ?_⟩
    · rw [htl]
      exact Nat.lt_of_le_of_lt hl (by decide)
    walk_at "w"
    dsimp only
    refine w_fldaug ?_
    refine Z.w_var (v := V.ref o) rfl ⟨o, T.C_Trail, t.dx, t.fs n, .int n, rfl, by walk_at "hp", T.cl_Trail, T.n_Trail__next_ticket, rfl, ?_⟩
    walk_at "w"
    refine ⟨n, 1, rfl, rfl, t.dx, t.fs n, by walk_at "hp", (show 8 < 1000 by decide), ?_⟩
    have hnone : valV (plk rs) (Sum.inl i) = none := by
      rw [plk_get, List.idxOf?_eq_none_iff.mpr hn]
      rfl
    refine h _ ((((((TrX.refl _).put (b := t.dp) (by simp)).put (b := t.ll) (by simp)).put (b := t.lv) (by simp)).put (b := t.lr) (by simp)).put (b := t.lt) (by simp) |>.put (b := o) (by simp)) ?_
    refine ⟨⟨n + 1, upd_same⟩, ⟨kn, by walk_at "hp", hkv⟩, lst_eq (by walk_at "hp") ?_, lst_eq (by walk_at "hp") ?_, lst_eq (by walk_at "hp") ?_, dK_eq (by walk_at "hp") ?_, lst_eq (by walk_at "hp") ?_, ⟨ts ++ [V.int n], by walk_at "hp", ?_⟩, ht.df⟩
    · unfold lits
      rw [List.map_append, List.map_append]
      rfl
    · rw [nV_len, hs, starts_len, levs_snoc]
      unfold nV
      rw [List.map_append]
      rfl
    · rw [List.map_append]
      rfl
    · rw [putK_new _ hnone, plk_snoc, List.length_map, show (lits rs).length = rs.length from List.length_map _]
    · rw [hs]
    · rw [List.length_append, List.length_append, htl]
      rfl
end
end L

namespace L
open PySem PySem.Spec PyProof.Rows L2 Z M MR MT X2
open _root_.SX (S S_len S_cat S_inj)
section
variable {P : Program} {w : World} {K : PySem.W.Frag} {mg : Str → Option Value} {base : Heap}
theorem upd_self {H : Hp} {a : Addr} {o : HO} (h : H a = some o) : upd H a o = H := by
  funext b
  by_cases e : b = a
  · rw [e, upd_same, h]
  · rw [upd_ne e]
theorem val_non {rs : List TRow} {i : Int} (h : val rs i = .non) : i ∉ lits rs ∧ -i ∉ lits rs := by
  unfold val at h
  by_cases e1 : i ∈ lits rs
  · rw [if_pos e1] at h
    cases h
  · rw [if_neg e1] at h
    by_cases e2 : -i ∈ lits rs
    · rw [if_pos e2] at h
      cases h
    · exact ⟨e1, e2⟩
/-- a literal put by force (r some) or by choice -/
def spDo (CT C : Addr) (ch : Bool) : Sp := fun vs H Q E => ∃ (o : Addr) (t : TrO) (ns : List Int) (rs : List TRow) (i k : Int), vs = (if ch then [.ref o, .int i] else [.ref o, .int i, .int k]) ∧ TrAt CT H o t ns rs ∧ i.natAbs < 10 ^ 60 ∧ rs.length ≤ 99 ∧
  ((i.natAbs : Int) ∈ ns ∧ val rs i = .non → ∀ H', TrX o t H H' → TrAt CT H' o t ns (rs ++ [(i, if ch then none else some k)]) → Q .non H') ∧ (¬ ((i.natAbs : Int) ∈ ns ∧ val rs i = .non) → Refu C i H E)
theorem ok_force (T : Txt K mg) : FnOk P w K mg base (L2N.CX P w) 6 T.f_Trail_force T.fd_Trail_force ["self", "literal", "reason"] (spDo T.C_Trail T.C_BadLiteral false) := by
  have G_Trail_refuse_unless_open := ok_open (P := P) (w := w) (base := base) T
  have G_Trail_put := ok_put (P := P) (w := w) (base := base) T
  refine okN T.F_Trail_force sc_Trail_force (fun vs H Q E h => ?_) (fun cdv A outer s H vs Q E hr h => ?_)
  · obtain ⟨o, t, ns, rs, i, k, rfl, _⟩ := h
    rfl
  · obtain ⟨o, t, ns, rs, i, k, rfl, ht, hi, hl, h1, h2⟩ := h
    obtain ⟨n, ob⟩ := ht.ob
    refine ⟨_, (pss_cons (ps_expr (pe_meth (pv 0) T.cl_Trail T.M_Trail_refuse_unless_open G_Trail_refuse_unless_open (hr.mono (by first | decide | omega)) T.b_Trail_refuse_unless_open .nil (L2N.passes_call (L2N.takes_of rfl rfl rfl rfl) fun _ _ _ _ h => h) (pa_cons (pv 1) pa_nil)))
 (pss_one (ps_expr (pe_meth (pv 0) T.cl_Trail T.M_Trail_put G_Trail_put (hr.mono (by first | decide | omega)) T.b_Trail_put .nil pass0 (pa_cons (pv 1) (pa_cons (pv 2) pa_nil)))))), ?_⟩
    refine Z.w_start (σ' := [some (.ref o), some (.int i), some (.int k)]) rfl ?_
    walk_at "w"
    refine w_meth0 ob rfl (by rfl) ?_
    walk_at "w"
    refine ⟨o, t, ns, rs, i, rfl, ht, hi, by omega, fun hm => ?_, fun hm => h2 hm⟩
    have hq := h1 hm
    walk_at "w"
    refine w_meth0 ob rfl (by rfl) ?_
    walk_at "w"
    refine ⟨o, t, ns, rs, i, some k, starts rs, rfl, ⟨H, ht, (upd_self ht.st).symm⟩, by omega, (val_non hm.2).1, ?_, fun H' x a => ?_⟩
    · rw [starts_snoc]
      simp
    · walk_at "w"
      exact hq _ x a
theorem ok_choose (T : Txt K mg) : FnOk P w K mg base (L2N.CX P w) 6 T.f_Trail_choose T.fd_Trail_choose ["self", "literal"] (spDo T.C_Trail T.C_BadLiteral true) := by
  have G_Trail_refuse_unless_open := ok_open (P := P) (w := w) (base := base) T
  have G_Trail_put := ok_put (P := P) (w := w) (base := base) T
  refine okN T.F_Trail_choose sc_Trail_choose (fun vs H Q E h => ?_) (fun cdv A outer s H vs Q E hr h => ?_)
  · obtain ⟨o, t, ns, rs, i, k, rfl, _⟩ := h
    rfl
  · obtain ⟨o, t, ns, rs, i, k, rfl, ht, hi, hl, h1, h2⟩ := h
    obtain ⟨n, ob⟩ := ht.ob
    have hli := ht.li
    have hst := ht.st
    have b4 := ne_ins ob hst (fun _ _ _ e => by cases e)
    refine ⟨_, (pss_cons (ps_expr (pe_meth (pv 0) T.cl_Trail T.M_Trail_refuse_unless_open G_Trail_refuse_unless_open (hr.mono (by first | decide | omega)) T.b_Trail_refuse_unless_open .nil (L2N.passes_call (L2N.takes_of rfl rfl rfl rfl) fun _ _ _ _ h => h) (pa_cons (pv 1) pa_nil)))
 (pss_cons (ps_expr (pe_bm PySem.F.plainAttrs_list PySem.F.slot_list_append PySem.F.type_list_append mt_append (pe_fld (pv 0) rfl) (pa_cons (pe_callB call_len_seq (by rfl) T.m_len (by decide +kernel) (pa_cons (pe_fld (pv 0) rfl) pa_nil)) pa_nil)))
 (pss_one (ps_expr (pe_meth (pv 0) T.cl_Trail T.M_Trail_put G_Trail_put (hr.mono (by first | decide | omega)) T.b_Trail_put .nil pass0 (pa_cons (pv 1) (pa_cons pe_non pa_nil))))))), ?_⟩
    refine Z.w_start (σ' := [some (.ref o), some (.int i)]) rfl ?_
    walk_at "w"
    refine w_meth0 ob rfl (by rfl) ?_
    walk_at "w"
    refine ⟨o, t, ns, rs, i, rfl, ht, hi, by omega, fun hm => ?_, fun hm => h2 hm⟩
    have hq := h1 hm
    walk_at "w"
    refine Z.w_bm ?_
    refine w_fldT T.cl_Trail T.n_Trail__starts ob rfl ?_
    refine ⟨.inl ⟨rfl, _, .inl (.inl hst)⟩, ?_⟩
    walk_at "w"
    refine w_fldT T.cl_Trail T.n_Trail__literals ob rfl ?_
    walk_at "w"
    refine ⟨t.ls, _, _, rfl, rfl, hst, ?_, ?_⟩
    · rw [nV_len, starts_len]
      exact Nat.lt_of_le_of_lt (Nat.le_trans (List.countP_le_length) hl) (by decide)
    walk_at "w"
    refine w_meth0 (dx := t.dx) (fs := t.fs n) (by walk_at "hp") rfl (by rfl) ?_
    walk_at "w"
    refine ⟨o, t, ns, rs, i, none, starts rs ++ [rs.length], rfl, ⟨H, ht, ?_⟩, by omega, (val_non hm.2).1, ?_, fun H' x a => ?_⟩
    · unfold nV lits
      rw [List.map_append, List.length_map, List.length_map]
      rfl
    · rw [starts_snoc]
      rfl
    · walk_at "w"
      exact hq _ (((TrX.refl H).put (b := t.ls) (by simp)).trans x) a
end
end L

namespace L
open PySem PySem.Spec PyProof.Rows L2 Z M MR MT X2
open _root_.SX (S S_len S_cat S_inj)
section
variable {P : Program} {w : World} {K : PySem.W.Frag} {mg : Str → Option Value} {base : Heap}
/-- the sizes of the levels -/
def sizesV (rs : List TRow) : List V := (List.range (dep rs + 1)).map fun k => V.int ((ed rs (k + 1) : Int) - (ed rs k : Int))
def edges (rs : List TRow) : List Nat := [0] ++ (starts rs ++ [rs.length])
theorem edges_at (rs : List TRow) (k : Nat) (h : k ≤ dep rs + 1) : (edges rs)[k]? = some (ed rs k) := by
  cases k with
  | zero => rfl
  | succ k =>
    show (starts rs ++ [rs.length])[k]? = some (ed rs (k + 1))
    by_cases e : k < dep rs
    · obtain ⟨s, h1, h2, _⟩ := ed_lt e
      rw [List.getElem?_append_left (by rw [starts_len]; exact e), h1, h2]
    · rw [List.getElem?_append_right (by rw [starts_len]; omega), starts_len, ed_ge (by omega), show k - dep rs = 0 by omega]
      rfl
theorem w_star {te : TE} {ta : TA} {σ : L2.St} {H : Hp} {Q : List V → Hp → Prop} (h : te σ H fun x H1 => ∃ p xs, x = V.ref p ∧ (SqT K H1 p xs ∨ SqL K H1 p xs) ∧ ta σ H1 fun ys H2 => Q (xs ++ ys) H2) : StX.tStar K te ta σ H Q := h
theorem nV_app (a b : List Nat) : nV (a ++ b) = nV a ++ nV b := List.map_append
theorem edges_len (rs : List TRow) : (edges rs).length = dep rs + 2 := by
  unfold edges
  rw [List.length_append, List.length_append, starts_len]
  simp
  omega
def spSizes (C : Addr) : Sp := fun vs H Q _ => ∃ (o : Addr) (t : TrO) (ns : List Int) (rs : List TRow), vs = [.ref o] ∧ TrAt C H o t ns rs ∧ rs.length ≤ 100 ∧ ∀ p H', Same H H' → H p = none → H' p = some (.lst (sizesV rs)) → Q (.ref p) H'
theorem fresh_of1 {H H' : Hp} {p : Addr} (s : Same H H') (h : H' p = none) : H p = none := by
  cases e : H p with
  | none => rfl
  | some o => rw [s _ _ e] at h; cases h
theorem ok_sizes (T : Txt K mg) : FnOk P w K mg base CX0 1 T.f_Trail_sizes T.fd_Trail_sizes ["self"] (spSizes T.C_Trail) := by
  refine T.F_Trail_sizes.ok sc_Trail_sizes (fun vs H Q E h => ?_) (fun cdv A outer s H vs Q E hr h => ?_)
  · obtain ⟨o, t, ns, rs, rfl, _⟩ := h
    rfl
  · obtain ⟨o, t, ns, rs, rfl, ht, hl, h⟩ := h
    obtain ⟨n, ob⟩ := ht.ob
    have hst := ht.st
    have hli := ht.li
    have hdl : dep rs ≤ 100 := Nat.le_trans List.countP_le_length hl
    have ee : (V.int 0 :: (nV (starts rs) ++ [V.int (((lits rs).map V.int).length : Int)])) = nV (edges rs) := by
      unfold edges
      rw [nV_app, nV_app, List.length_map, show (lits rs).length = rs.length from List.length_map _]
      rfl
    have el : (nV (edges rs)).length = dep rs + 2 := by rw [nV_len, edges_len]
    refine ⟨_, (pss_cons (ps_set (i := 1) sc_Trail_sizes.nd rfl (.inr rfl) (pe_lst (pa_cons pe_int (StX.pa_star (pe_fld (pv 0) rfl) (pa_cons (pe_callB call_len_seq (by rfl) T.m_len (by decide +kernel) (pa_cons (pe_fld (pv 0) rfl) pa_nil)) pa_nil)))))
 (pss_one (ps_ret (pe_lc (own := [("k", 2)]) (g := gName 2) (tt := tYes) (by rfl) sc_Trail_sizes.nd (pi_range1 (by rfl) T.m_range (pa_cons (pe_op op_sub (pe_callB call_len_seq (by rfl) T.m_len (by decide +kernel) (pa_cons (pv 1) pa_nil)) pe_int) pa_nil)) (blkOk_by (own := [("k", 2)]) (N := N_Trail_sizes) (sc := defScope s_Trail_sizes) (by decide +kernel)) (fun _ _ _ _ _ => pg_name (i := 2) sc_Trail_sizes.nd rfl (Or.inl rfl)) (fun _ _ _ _ _ => pts_nil) (fun _ _ _ _ _ => (pe_op op_sub (pe_ix (show IxR _ (rIxL K) from ix_list) (pv 1) (pe_op op_add (pv 2) pe_int) (fun _ _ => rfl)) (pe_ix (show IxR _ (rIxL K) from ix_list) (pv 1) (pv 2) (fun _ _ => rfl)))))))), ?_⟩
    refine Z.w_start (σ' := [some (.ref o), none, none]) rfl ?_
    walk_at "w"
    refine w_star ?_
    refine w_fldT T.cl_Trail T.n_Trail__starts ob rfl ?_
    refine ⟨t.ls, nV (starts rs), rfl, .inr (.inl (.inl hst)), ?_⟩
    walk_at "w"
    refine w_fldT T.cl_Trail T.n_Trail__literals ob rfl ?_
    refine ⟨t.ll, (lits rs).map V.int, rfl, .inl (.inl (.inl hli)), ?_⟩
    refine (?_ : (V.int 0 :: (nV (starts rs) ++ [V.int (((lits rs).map V.int).length : Int)])).length ≤ sizeLine ∧ _)
    rw [ee]
    refine ⟨by rw [el]; exact Nat.le_trans (show dep rs + 2 ≤ 200 by omega) (by decide), ?_⟩
    intro e fe
    have s1 := same_of (Same.refl H) fe (o := .lst (nV (edges rs)))
    walk_at "w"
    refine ⟨by omega, by omega, fun D hD => ?_⟩
    have en : ((nV (edges rs)).length - 1 : Int).toNat = dep rs + 1 := by omega
    rw [en]
    have nDe : e ≠ D := fun z => by subst z; rw [upd_same] at hD; cases hD
    refine lc_range (lo := 0) (n := dep rs + 1) (fun j H5 => Same (upd H e (.lst (nV (edges rs)))) H5 ∧ j ≤ dep rs + 1 ∧ H5 D = some (.lst ((sizesV rs).take j))) ?_ ?_ ?_
    · exact ⟨same_of (Same.refl _) hD, Nat.zero_le _, upd_same⟩
    · rintro j H5 hj ⟨s5, hjl, e5⟩
      have hSe : SqL K H5 e (nV (edges rs)) := .inl (.inl (s5 _ _ upd_same))
      have k1 : atI (nV (edges rs)) (0 + (j : Int)) = some (.int (ed rs j : Int)) := by
        rw [Int.zero_add]
        refine atI_nat ?_
        unfold nV
        rw [List.getElem?_map, edges_at rs j (by omega)]
        rfl
      have k2 : atI (nV (edges rs)) (0 + (j : Int) + 1) = some (.int (ed rs (j + 1) : Int)) := by
        rw [Int.zero_add, show (j : Int) + 1 = ((j + 1 : Nat) : Int) from rfl]
        refine atI_nat ?_
        unfold nV
        rw [List.getElem?_map, edges_at rs (j + 1) (by omega)]
        rfl
      refine Z.w_gname (σ' := [some (.ref o), some (.ref e), some (.int (0 + (j : Int)))]) rfl ⟨rfl, ?_⟩
      walk_at "w"
      refine ⟨_, e5, ?_, same_mut s5 hD, hj, ?_⟩
      · rw [List.length_take]
        exact Nat.lt_of_le_of_lt (Nat.min_le_left _ _) (Nat.lt_trans (show j < 200 by omega) (by decide))
      · rw [upd_same, List.take_add_one]
        unfold sizesV
        rw [List.getElem?_map, List.getElem?_range hj]
        rfl
    · rintro H5 ⟨s5, _, e5⟩
      rw [List.take_of_length_le (by unfold sizesV; rw [List.length_map, List.length_range]; exact Nat.le_refl _)] at e5
      walk_at "w"
      exact h _ _ (s1.trans s5) (fresh_of1 s1 hD) e5
end
end L

local macro_rules | `(tactic| walk_at "cond") => `(tactic| first | assumption | fail "cond")
local macro_rules | `(tactic| walk_at "pl") => `(tactic| first | assumption | exact L.PX.refl' (by assumption) | exact L.PoolAt.same (by assumption) (Z.same_of (L2.Same.refl _) (by assumption)) | fail "pl")
local macro_rules | `(tactic| walk_at "w1") => `(tactic| first
  | ((with_reducible refine' Z.w_ixT ?wh ?wa ?_); (case wh => walk_at "seq"); (case wa => exact rfl))
  | ((with_reducible refine' Z.w_gtup ?wh ?wa ?_); (case wh => walk_at "seq"); (case wa => exact rfl))
  | ((with_reducible refine' L.use_takeP ?wh ?wa ?wb (fun r H1 p1 h0 h1 => ?_)); (case wh => walk_at "pl"); (case wa => omega); (case wb => omega))
  | with_reducible refine L.use_whole ?_
  | with_reducible refine L.w_slice ?_
  | with_reducible refine L.w_nopart ?_
  | with_reducible refine L.w_part ?_
  | fail "w1")

namespace L
open PySem PySem.Spec PyProof.Rows L2 Z M MR MT X2
open _root_.SX (S S_len S_cat S_inj)
section
variable {P : Program} {w : World} {K : PySem.W.Frag} {mg : Str → Option Value} {base : Heap}
theorem dropK_mid {a b : List (Key × V)} {k : Key} {v : V} (ha : ∀ p ∈ a, p.1 ≠ k) (hb : ∀ p ∈ b, p.1 ≠ k) : dropK (a ++ (k, v) :: b) k = a ++ b := by
  unfold dropK
  rw [List.filter_append, List.filter_cons, if_neg (by simp), List.filter_eq_self.mpr fun p hp => decide_eq_true (ha p hp), List.filter_eq_self.mpr fun p hp => decide_eq_true (hb p hp)]
/-- the places when i of the rows from s on are gone -/
def plkB (rs : List TRow) (s i : Nat) : List (Key × V) := (plk rs).take s ++ (plk rs).drop (s + i)
theorem plk_take (rs : List TRow) (n : Nat) : (plk rs).take n = plk (rs.take n) := by
  unfold plk
  rw [← List.map_take]
  congr 1
  refine List.ext_getElem? fun i => ?_
  rw [List.getElem?_take, List.getElem?_zipIdx, List.getElem?_zipIdx, List.getElem?_take]
  split <;> rfl
theorem plk_at {rs : List TRow} {i : Nat} {r : TRow} (h : rs[i]? = some r) : (plk rs)[i]? = some (Sum.inl r.1, V.int (i : Int)) := by
  unfold plk
  rw [List.getElem?_map, List.getElem?_zipIdx, h]
  simp
theorem plk_keys (rs : List TRow) : (plk rs).map (·.1) = (lits rs).map Sum.inl := by
  refine List.ext_getElem? fun i => ?_
  unfold lits
  rw [List.getElem?_map, List.map_map, List.getElem?_map]
  cases h : rs[i]? with
  | none => rw [List.getElem?_eq_none (by rw [plk_len]; exact List.getElem?_eq_none_iff.mp h)]; rfl
  | some r => rw [plk_at h]; rfl
theorem plkB_step {rs : List TRow} {s i : Nat} {r : TRow} (hn : (lits rs).Nodup) (h : rs[s + i]? = some r) : dropK (plkB rs s i) (Sum.inl r.1) = plkB rs s (i + 1) := by
  have hi := (List.getElem?_eq_some_iff.mp h).1
  have hi2 : s + i < (plk rs).length := by rw [plk_len]; exact hi
  have nd : ((plk rs).map (·.1)).Nodup := by
    rw [plk_keys]
    exact List.Pairwise.map _ (fun a b h z => h (Sum.inl.inj z)) hn
  have e : (plk rs).drop (s + i) = (Sum.inl r.1, V.int ((s + i : Nat) : Int)) :: (plk rs).drop (s + (i + 1)) := by
    have e2 : (plk rs)[s + i] = (Sum.inl r.1, V.int ((s + i : Nat) : Int)) := Option.some.inj ((List.getElem?_eq_getElem hi2).symm.trans (plk_at h))
    rw [List.drop_eq_getElem_cons hi2, e2]
    rfl
  have key : ∀ j p, (plk rs)[j]? = some p → j ≠ s + i → p.1 ≠ Sum.inl r.1 := by
    intro j p hj hne ek
    have hj1 : ((plk rs).map (·.1))[j]? = some (Sum.inl r.1) := by rw [List.getElem?_map, hj]; exact congrArg some ek
    have hj2 : ((plk rs).map (·.1))[s + i]? = some (Sum.inl r.1) := by rw [List.getElem?_map, plk_at h]; rfl
    exact hne ((List.getElem?_inj (by rw [List.length_map]; exact (List.getElem?_eq_some_iff.mp hj).1) nd).mp (hj1.trans hj2.symm))
  unfold plkB
  rw [e]
  refine dropK_mid (fun p hp => ?_) (fun p hp => ?_)
  · obtain ⟨j, hj⟩ := List.mem_iff_getElem?.mp hp
    rw [List.getElem?_take] at hj
    split at hj
    · exact key j p hj (by omega)
    · cases hj
  · obtain ⟨j, hj⟩ := List.mem_iff_getElem?.mp hp
    rw [List.getElem?_drop] at hj
    exact key _ p hj (by omega)
theorem plkB_some {rs : List TRow} {s i : Nat} {r : TRow} (h : rs[s + i]? = some r) : (valV (plkB rs s i) (Sum.inl r.1)).isSome = true := by
  have hi := (List.getElem?_eq_some_iff.mp h).1
  rw [← valV_any, List.any_eq_true]
  refine ⟨(Sum.inl r.1, V.int ((s + i : Nat) : Int)), ?_, decide_eq_true rfl⟩
  unfold plkB
  refine List.mem_append_right _ (List.mem_iff_getElem?.mpr ⟨0, ?_⟩)
  rw [List.getElem?_drop, Nat.add_zero]
  exact plk_at h
theorem cut_from {xs : List V} {s : Nat} (h : s ≤ xs.length) : cutV xs (some (s : Int)) none = xs.drop s := by
  unfold cutV
  rw [HT.sIx_nat, HT.sIx_none, Nat.min_eq_left h, List.take_of_length_le (by rw [List.length_drop]; exact Nat.le_refl _)]
theorem cut_to {xs : List V} {s : Nat} (h : s ≤ xs.length) : cutV xs none (some (s : Int)) = xs.take s := by
  unfold cutV
  rw [HT.sIx_nat, HT.sIx_none, Nat.min_eq_left h, List.drop_zero, Nat.sub_zero]
theorem w_slice {r : V → Option Int → Option Int → Hp → VK → Prop} {te : TE} {tl th : TO} {σ : L2.St} {H : Hp} {Q : VK} (h : te σ H fun x H1 => tl σ H1 fun l H2 => th σ H2 fun u H3 => r x l u H3 Q) : L2.tSl r te tl th σ H Q := h
theorem w_nopart {σ : L2.St} {H : Hp} {R : Option Int → Hp → Prop} (h : R none H) : tNoPart σ H R := h
theorem w_part {t : TE} {σ : L2.St} {H : Hp} {R : Option Int → Hp → Prop} (h : t σ H fun x H1 => ∃ i, x = .int i ∧ R (some i) H1) : tPart t σ H R := h
theorem w_slFrom {a : Addr} {xs : List V} {s : Nat} {H : Hp} {Q : VK} (h : SqL K H a xs) (hs : s ≤ xs.length) (q : ∀ p, H p = none → Q (.ref p) (upd H p (.lst (xs.drop s)))) : rSlL K (.ref a) (some (s : Int)) none H Q :=
  ⟨a, xs, rfl, h, fun p hp => by rw [cut_from hs]; exact q p hp⟩
theorem w_slTo {a : Addr} {xs : List V} {s : Nat} {H : Hp} {Q : VK} (h : SqL K H a xs) (hs : s ≤ xs.length) (q : ∀ p, H p = none → Q (.ref p) (upd H p (.lst (xs.take s)))) : rSlL K (.ref a) none (some (s : Int)) H Q :=
  ⟨a, xs, rfl, h, fun p hp => by rw [cut_to hs]; exact q p hp⟩
theorem w_ddel {td ty : TE} {D : Ends} {σ : L2.St} {H : Hp} (h : td σ H fun x H1 => ty σ H1 fun y H2 => ∃ a kvs k, x = .ref a ∧ H2 a = some (.dK kvs) ∧ y = kV k ∧ (valV kvs k).isSome = true ∧ D.nx σ (upd H2 a (.dK (dropK kvs k)))) : sDDel td ty D σ H := h
theorem w_dels {ts : List (TE × TE)} {D : Ends} {σ : L2.St} {H : Hp} (h : OWN.tDels ts σ H fun H' => D.nx σ H') : OWN.sDels ts D σ H := h
theorem w_del1 {to tl : TE} {r : List (TE × TE)} {σ : L2.St} {H : Hp} {Q : Hp → Prop} (h : to σ H fun x H1 => tl σ H1 fun y H2 => ∃ (l : Addr) (xs : List V) (i : Int), x = .ref l ∧ y = .int i ∧ H2 l = some (.lst xs) ∧ 0 ≤ i ∧ i ≤ xs.length ∧ OWN.tDels r σ (upd H2 l (.lst (xs.take i.toNat))) Q) : OWN.tDels ((to, tl) :: r) σ H Q := h
theorem w_del0 {σ : L2.St} {H : Hp} {Q : Hp → Prop} (h : Q H) : OWN.tDels [] σ H Q := h
theorem nV_take (ns : List Nat) (n : Nat) : (nV ns).take n = nV (ns.take n) := List.map_take.symm
theorem nV_at {ns : List Nat} {k n : Nat} (h : ns[k]? = some n) : atI (nV ns) (k : Int) = some (.int (n : Int)) := by
  refine atI_nat ?_
  unfold nV
  rw [List.getElem?_map, h]
  rfl
def spBack (C : Addr) : Sp := fun vs H Q _ => ∃ (o : Addr) (t : TrO) (ns : List Int) (rs : List TRow) (k : Nat), vs = [.ref o, .int (k : Int)] ∧ TrAt C H o t ns rs ∧ rs.length ≤ 100 ∧ (lits rs).Nodup ∧
  ∀ H', TrX o t H H' → TrAt C H' o t ns (rs.take (ed rs (k + 1))) → Q .non H'
theorem ok_back (T : Txt K mg) : FnOk P w K mg base CX0 1 T.f_Trail_back T.fd_Trail_back ["self", "level"] (spBack T.C_Trail) := by
  refine T.F_Trail_back.ok sc_Trail_back (fun vs H Q E h => ?_) (fun cdv A outer s H vs Q E hr h => ?_)
  · obtain ⟨o, t, ns, rs, k, rfl, _⟩ := h
    rfl
  · obtain ⟨o, t, ns, rs, k, rfl, ht, hl, hnd, h⟩ := h
    obtain ⟨n, ob⟩ := ht.ob
    obtain ⟨kn, hk, hkv⟩ := ht.nd
    obtain ⟨ts, hts, htl⟩ := ht.ti
    have hli := ht.li
    have hle := ht.le
    have hre := ht.re
    have hpl := ht.pl
    have hst := ht.st
    obtain ⟨hdf, hdd⟩ := ht.df
    simp only [List.nodup_cons, List.mem_cons, List.not_mem_nil, or_false, not_or, not_false_eq_true, List.nodup_nil, and_true] at hdf
    obtain ⟨⟨a1, a2, a3, a4⟩, ⟨a5, a6, a7⟩, ⟨a8, a9⟩, a10⟩ := hdf
    have b1 := ne_ins ob hli (fun _ _ _ e => by cases e)
    have b2 := ne_ins ob hle (fun _ _ _ e => by cases e)
    have b3 := ne_ins ob hre (fun _ _ _ e => by cases e)
    have b4 := ne_ins ob hst (fun _ _ _ e => by cases e)
    have b5 := ne_ins ob hts (fun _ _ _ e => by cases e)
    have b6 := ne_ins ob hpl (fun _ _ _ e => by cases e)
    have b7 := ne_ins ob hk (fun _ _ _ e => by cases e)
    have c1 := ne_ld hli hpl
    have c2 := ne_ld hle hpl
    have c3 := ne_ld hre hpl
    have c4 := ne_ld hst hpl
    have c5 := ne_ld hts hpl
    have e1 := ne_ld hli hk
    have e2 := ne_ld hle hk
    have e3 := ne_ld hre hk
    have e4 := ne_ld hst hk
    have e5 := ne_ld hts hk
    refine ⟨_, (pss_cons (ps_if (pt_cmpR op_ge (pv 1) (pe_callB call_len_seq (by rfl) T.m_len (by decide +kernel) (pa_cons (pe_fld (pv 0) rfl) pa_nil)) (nomark _)) (pss_one ps_retN) pss_nil)
 (pss_cons (ps_set (i := 2) sc_Trail_back.nd rfl (.inl rfl) (pe_ix ix_list (pe_fld (pv 0) rfl) (pv 1) (fun _ _ => rfl)))
 (pss_cons (ps_for PassesOwn.never rfl (pi_list (pe_slice sl_list (pe_fld (pv 0) rfl) (po_some (pv 2)) po_none)) (pg_name (i := 3) sc_Trail_back.nd rfl (.inl rfl)) (pss_one (ps_ddel (pe_fld (pv 0) rfl) (pv 3))))
 (pss_cons (OWN.ps_dels (OWN.pds_cons (pe_fld (pv 0) rfl) (pv 2) (OWN.pds_cons (pe_fld (pv 0) rfl) (pv 2) (OWN.pds_cons (pe_fld (pv 0) rfl) (pv 2) (OWN.pds_cons (pe_fld (pv 0) rfl) (pv 2) OWN.pds_nil)))))
 (pss_one (OWN.ps_dels (OWN.pds_cons (pe_fld (pv 0) rfl) (pv 1) OWN.pds_nil))))))), ?_⟩
    refine Z.w_start (σ' := [some (.ref o), some (.int (k:Int)), none, none]) rfl ?_
    walk_at "w"
    refine w_fldT T.cl_Trail T.n_Trail__starts ob rfl ?_
    walk_at "w"
    rw [nV_len, starts_len]
    by_cases hd : dep rs ≤ k
    · rw [ed_ge hd, List.take_of_length_le (Nat.le_refl _)] at h
      walk_at "w"
      exact h _ (TrX.refl _) ht
    · obtain ⟨s0, g1, g2, g3⟩ := ed_lt (show k < dep rs by omega)
      have tst := starts_take (show k < dep rs by omega)
      rw [g2] at h tst
      have hSs : SqL K H t.ls (nV (starts rs)) := .inl (.inl hst)
      have hSl : SqL K H t.ll ((lits rs).map V.int) := .inl (.inl hli)
      have hll : ((lits rs).map V.int).length = rs.length := by rw [List.length_map]; exact List.length_map _
      have aT := nV_at g1
      walk_at "w"
      refine w_fldT T.cl_Trail T.n_Trail__starts ob rfl ?_
      walk_at "w"
      refine w_fldT T.cl_Trail T.n_Trail__literals ob rfl ?_
      walk_at "w"
      refine w_slFrom hSl (by omega) fun p hp => ?_
      walk_at "w"
      refine for_list (xs := ((lits rs).map V.int).drop s0) (fun i σ H' => ∃ x3, σ = [some (.ref o), some (.int (k : Int)), some (.int (s0 : Int)), x3] ∧ i ≤ rs.length - s0 ∧ H' = upd (upd H p (.lst (((lits rs).map V.int).drop s0))) t.dp (.dK (plkB rs s0 i))) ?_ ?_ ?_ ?_
      · refine ⟨_, rfl, Nat.zero_le _, ?_⟩
        unfold plkB
        rw [Nat.add_zero, List.take_append_drop]
        exact (upd_self (by rw [upd_ne (ne_of_none hpl hp)]; exact hpl)).symm
      · rintro i σ H' hi ⟨x3, rfl, _, rfl⟩
        refine .inl (.inl ?_)
        rw [upd_ne (ne_of_none hpl hp).symm, upd_same]
      · rintro i x σ H' hx ⟨x3, rfl, hi, rfl⟩
        rw [List.getElem?_drop, List.getElem?_map] at hx
        unfold lits at hx
        rw [List.getElem?_map] at hx
        cases hr : rs[s0 + i]? with
        | none => rw [hr] at hx; cases hx
        | some r =>
          rw [hr] at hx
          obtain rfl := Option.some.inj hx
          have hi2 := (List.getElem?_eq_some_iff.mp hr).1
          walk_at "w"
          refine w_ddel ?_
          refine w_fldT T.cl_Trail T.n_Trail__places (fs := t.fs n) (dx := t.dx) (by rw [upd_ne b6]; exact upd_of hp ob) rfl ?_
          walk_at "w"
          refine ⟨t.dp, _, Sum.inl r.1, rfl, upd_same, rfl, plkB_some hr, ?_⟩
          rw [upd_upd, plkB_step hnd hr]
          exact ⟨_, rfl, by omega, rfl⟩
      · rintro σ H' ⟨x3, rfl, _, rfl⟩
        rw [List.length_drop, hll]
        have ep : plkB rs s0 (rs.length - s0) = plk (rs.take s0) := by
          unfold plkB
          rw [List.drop_of_length_le (by rw [plk_len]; omega), List.append_nil, plk_take]
        rw [ep]
        have f1 := ne_of_none ob hp
        have f2 := ne_of_none hli hp
        have f3 := ne_of_none hle hp
        have f4 := ne_of_none hre hp
        have f5 := ne_of_none hst hp
        have f6 := ne_of_none hts hp
        have f7 := ne_of_none hk hp
        have f8 := ne_of_none hpl hp
        have hlen : ((lits rs).map V.int).length = rs.length := hll
        walk_at "w"
        refine w_dels (w_del1 ?_)
        refine w_fldT T.cl_Trail T.n_Trail__literals (fs := t.fs n) (dx := t.dx) (by walk_at "hp") rfl ?_
        walk_at "w"
        refine ⟨t.ll, _, _, rfl, rfl, (by walk_at "hp"), by omega, by omega, w_del1 ?_⟩
        refine w_fldT T.cl_Trail T.n_Trail__levels (fs := t.fs n) (dx := t.dx) (by walk_at "hp") rfl ?_
        walk_at "w"
        refine ⟨t.lv, _, _, rfl, rfl, (by walk_at "hp"), by omega, by rw [nV_len, levs_len]; omega, w_del1 ?_⟩
        refine w_fldT T.cl_Trail T.n_Trail__reasons (fs := t.fs n) (dx := t.dx) (by walk_at "hp") rfl ?_
        walk_at "w"
        refine ⟨t.lr, _, _, rfl, rfl, (by walk_at "hp"), by omega, by rw [List.length_map]; omega, w_del1 ?_⟩
        refine w_fldT T.cl_Trail T.n_Trail__tickets (fs := t.fs n) (dx := t.dx) (by walk_at "hp") rfl ?_
        walk_at "w"
        refine ⟨t.lt, _, _, rfl, rfl, (by walk_at "hp"), by omega, by omega, w_del0 ?_⟩
        walk_at "w"
        refine w_dels (w_del1 ?_)
        refine w_fldT T.cl_Trail T.n_Trail__starts (fs := t.fs n) (dx := t.dx) (by walk_at "hp") rfl ?_
        walk_at "w"
        refine ⟨t.ls, _, _, rfl, rfl, (by walk_at "hp"), by omega, by rw [nV_len, starts_len]; omega, w_del0 ?_⟩
        simp only [Int.toNat_natCast]
        walk_at "w"
        have x0 : TrX o t H (upd H p (.lst (((lits rs).map V.int).drop s0))) := fun b x _ e => upd_of hp e
        refine h _ ((((((x0.put (b := t.dp) (by simp)).put (b := t.ll) (by simp)).put (b := t.lv) (by simp)).put (b := t.lr) (by simp)).put (b := t.lt) (by simp)).put (b := t.ls) (by simp)) ?_
        refine ⟨⟨n, by walk_at "hp"⟩, ⟨kn, by walk_at "hp", hkv⟩, lst_eq (by walk_at "hp") ?_, lst_eq (by walk_at "hp") ?_, lst_eq (by walk_at "hp") ?_, dK_eq (by walk_at "hp") ?_, lst_eq (by walk_at "hp") ?_, ⟨ts.take s0, by walk_at "hp", ?_⟩, ht.df⟩
        · unfold lits
          rw [← List.map_take, ← List.map_take]
        · rw [nV_take, take_levs]
        · rw [List.map_take]
        · rfl
        · rw [nV_take, tst]
        · rw [List.length_take, List.length_take, htl]
end
end L

namespace L
open PySem PySem.Spec PyProof.Rows L2 Z
/-- a dict comprehension over a walk -/
theorem dc_it {J : It} {n : Nat} {G : Hp → Prop} {Y : Nat → Hp → V → Hp → Prop} (w : Walk J n G Y) {g : TG} {tt : TT} {tk tv : TE} {vs : List Nat} {σ : L2.St} {H1 : Hp} {D : Addr} {Qd : Hp → Prop} (Pv : Nat → Hp → Prop) (h0 : Pv 0 (upd H1 D (.dK []))) (hG : ∀ i H, i ≤ n → Pv i H → G H)
    (hs : ∀ i x H H', i < n → Pv i H → Y i H x H' → g x (wipe σ vs) H' fun σ2 H2 => wipe σ2 vs = wipe σ vs ∧ tt σ2 H2 fun b H3 =>
      if b = true then tk σ2 H3 fun y H4 => tv σ2 H4 fun z H5 => ∃ kvs k, y = kV k ∧ H5 D = some (.dK kvs) ∧ kvs.length < sizeLine ∧ Pv (i + 1) (upd H5 D (.dK (putK kvs k z))) else Pv (i + 1) H3) (hd : ∀ H, Pv n H → Qd H) :
    ∃ W : Nat → Nat → Hp → Prop, (∃ m, W 0 m (upd H1 D (.dK []))) ∧ ∀ i m H, W i m H →
      (J.stop i H ∧ Qd H) ∨ (J.go i H ∧ ∃ Nx : Hp → Prop, (∀ H', Nx H' → ∃ m', m' < m ∧ W (i + 1) m' H') ∧ ∀ x H', J.yld i H x H' → g x (wipe σ vs) H' fun σ2 H2 => wipe σ2 vs = wipe σ vs ∧ tt σ2 H2 fun b H3 =>
        if b = true then tk σ2 H3 fun y H4 => tv σ2 H4 fun z H5 => ∃ kvs k, y = kV k ∧ H5 D = some (.dK kvs) ∧ kvs.length < sizeLine ∧ Nx (upd H5 D (.dK (putK kvs k z))) else Nx H3) := by
  refine ⟨fun i m H => m = n - i ∧ i ≤ n ∧ Pv i H, ⟨n, by simp, Nat.zero_le _, h0⟩, ?_⟩
  rintro i m H ⟨rfl, hi, p⟩
  have q := hG i H hi p
  by_cases hlt : i < n
  · refine .inr ⟨w.goes i H hlt q, Pv (i + 1), fun H' p' => ⟨n - (i + 1), by omega, rfl, hlt, p'⟩, fun x H' y => hs i x H H' hlt p (w.yields i H x H' hlt q y)⟩
  · have e : i = n := by omega
    subst e
    exact .inl ⟨w.stops H q, hd H p⟩
theorem w_dc {wi : TI} {g : TG} {tt : TT} {tk tv : TE} {ivs : List Nat} {σ : L2.St} {H : Hp} {Q : VK} (h : wi σ H fun J H1 => ∀ D, H1 D = none → ∃ W : Nat → Nat → Hp → Prop, (∃ m, W 0 m (upd H1 D (.dK []))) ∧ ∀ i m H, W i m H →
  (J.stop i H ∧ Q (.ref D) H) ∨ (J.go i H ∧ ∃ Nx : Hp → Prop, (∀ H', Nx H' → ∃ m', m' < m ∧ W (i + 1) m' H') ∧ ∀ x H', J.yld i H x H' → g x (wipe σ ivs) H' fun σ2 H2 => wipe σ2 ivs = wipe σ ivs ∧ tt σ2 H2 fun b H3 =>
    if b = true then tk σ2 H3 fun y H4 => tv σ2 H4 fun z H5 => ∃ kvs k, y = kV k ∧ H5 D = some (.dK kvs) ∧ kvs.length < sizeLine ∧ Nx (upd H5 D (.dK (putK kvs k z))) else Nx H3)) : tDc wi g tt tk tv ivs σ H Q := h
end L

namespace L
open PySem PySem.Spec PyProof.Rows L2 Z M MR MT X2
open _root_.SX (S S_len S_cat S_inj)
section
variable {P : Program} {w : World} {K : PySem.W.Frag} {mg : Str → Option Value} {base : Heap}
structure InitSt (H0 Hc : Hp) (o C dx : Addr) (fs : List (Str × V)) (os : List (Addr × HO)) : Prop where
  sm : Same H0 Hc
  ob : Hc o = some (.ins C dx fs)
  all : ∀ p ∈ os, Hc p.1 = some p.2 ∧ H0 p.1 = none ∧ p.1 ≠ o
  nd : (os.map (·.1)).Nodup
theorem InitSt.step {H0 Hc : Hp} {o C dx l : Addr} {u : HO} {fs fs' : List (Str × V)} {os : List (Addr × HO)} (h : InitSt H0 Hc o C dx fs os) (h0 : H0 o = none) (hl : Hc l = none) : InitSt H0 (upd (upd Hc l u) o (.ins C dx fs')) o C dx fs' (os ++ [(l, u)]) := by
  have nl : l ≠ o := fun e => by subst e; rw [h.ob] at hl; cases hl
  have fl := fresh_of1 h.sm hl
  refine ⟨same_mut (same_of h.sm hl) h0, upd_same, fun p hp => ?_, ?_⟩
  · rcases List.mem_append.mp hp with m | m
    · obtain ⟨g1, g2, g3⟩ := h.all p m
      exact ⟨by rw [upd_ne g3]; exact upd_of hl g1, g2, g3⟩
    · obtain rfl := List.mem_singleton.mp m
      exact ⟨by rw [upd_ne nl, upd_same], fl, nl⟩
  · rw [List.map_append, List.nodup_append]
    refine ⟨h.nd, by simp, fun a ha b hb e => ?_⟩
    obtain rfl : b = l := by simpa using hb
    subst e
    obtain ⟨p, hp, rfl⟩ := List.mem_map.mp ha
    rw [(h.all p hp).1] at hl
    cases hl
theorem w_fld {ta tv : TE} {f : Str} {D : Ends} {σ : L2.St} {H : Hp} (h : tv σ H fun y H1 => ta σ H1 fun x H2 => ∃ a C dx fs, x = .ref a ∧ H2 a = some (.ins C dx fs) ∧ Cls K C ∧ NoAttr K C f ∧ fs.length < 1000 ∧ D.nx σ (upd H2 a (.ins C dx (putF f y fs)))) : sFld K ta tv f D σ H := h
theorem putF_new {f : Str} {v : V} : ∀ {fs : List (Str × V)}, f ∉ fs.map (·.1) → putF f v fs = fs ++ [(f, v)]
  | [], _ => rfl
  | (g, x) :: r, h => by
    rw [List.map_cons, List.mem_cons, not_or] at h
    show (if g = f then _ else _) = _
    rw [if_neg (fun e => h.1 e.symm), putF_new h.2]
    rfl
theorem w_initL {C o dx : Addr} {f : Str} {D : Ends} {σ : L2.St} {H0 H : Hp} {fs : List (Str × V)} {os : List (Addr × HO)} (h : InitSt H0 H o C dx fs os) (h0 : H0 o = none) (hc : Cls K C) (hn : NoAttr K C f) (nm : List Str) (e : fs.map (·.1) = nm) (hf : f ∉ nm) (hl : fs.length < 1000) (q : ∀ l H', InitSt H0 H' o C dx (fs ++ [(f, .ref l)]) (os ++ [(l, .lst [])]) → D.nx (some (.ref o) :: σ) H') : sFld K (tVar 0) (tLst tNil) f D (some (.ref o) :: σ) H := by
  refine w_fld (Z.w_lst (Z.w_nil ⟨Nat.zero_le _, fun l hl' => Z.w_var (v := V.ref o) rfl ⟨o, C, dx, fs, rfl, upd_of hl' h.ob, hc, hn, hl, by rw [putF_new (by rw [e]; exact hf)]; exact q l _ (h.step h0 hl')⟩⟩))
theorem w_initD {C o dx : Addr} {f : Str} {D : Ends} {σ : L2.St} {H0 H : Hp} {fs : List (Str × V)} {os : List (Addr × HO)} (h : InitSt H0 H o C dx fs os) (h0 : H0 o = none) (hc : Cls K C) (hn : NoAttr K C f) (nm : List Str) (e : fs.map (·.1) = nm) (hf : f ∉ nm) (hl : fs.length < 1000) (q : ∀ l H', InitSt H0 H' o C dx (fs ++ [(f, .ref l)]) (os ++ [(l, .dK [])]) → D.nx (some (.ref o) :: σ) H') : sFld K (tVar 0) tDNewK f D (some (.ref o) :: σ) H := by
  refine w_fld (Z.w_dnew fun l hl' => Z.w_var (v := V.ref o) rfl ⟨o, C, dx, fs, rfl, upd_of hl' h.ob, hc, hn, hl, by rw [putF_new (by rw [e]; exact hf)]; exact q l _ (h.step h0 hl')⟩)
theorem w_initC {C o dx : Addr} {f : Str} {v : V} {D : Ends} {σ : L2.St} {H0 H : Hp} {fs : List (Str × V)} {os : List (Addr × HO)} (h : InitSt H0 H o C dx fs os) (h0 : H0 o = none) (hc : Cls K C) (hn : NoAttr K C f) (nm : List Str) (e : fs.map (·.1) = nm) (hf : f ∉ nm) (hl : fs.length < 1000) (q : ∀ H', InitSt H0 H' o C dx (fs ++ [(f, v)]) os → D.nx (some (.ref o) :: σ) H') : sFld K (tVar 0) (tC v) f D (some (.ref o) :: σ) H :=
  w_fld (Z.w_c (Z.w_var (v := V.ref o) rfl ⟨o, C, dx, fs, rfl, h.ob, hc, hn, hl, by rw [putF_new (by rw [e]; exact hf)]; exact q _ ⟨same_mut h.sm h0, upd_same, fun p hp => by
    obtain ⟨g1, g2, g3⟩ := h.all p hp
    exact ⟨by rw [upd_ne g3]; exact g1, g2, g3⟩, h.nd⟩⟩))
def kinI (tup : Bool) (H : Hp) (a : Addr) (ns : List Int) : Prop := if tup then SqT K H a (ns.map V.int) else SqL K H a (ns.map V.int)
def spMk (K : PySem.W.Frag) (C : Addr) (tup : Bool) : Sp := fun vs H Q _ => ∃ (o a dx : Addr) (ns : List Int) (H0 : Hp), vs = [.ref o, .ref a] ∧ H = upd (upd H0 dx (.own o)) o (.ins C dx []) ∧ H0 o = none ∧ H0 dx = none ∧ dx ≠ o ∧ (if tup then SqT K H0 a (ns.map V.int) else SqL K H0 a (ns.map V.int)) ∧ ns.length ≤ 1000 ∧
  ∀ t H', Same H0 H' → (∀ b ∈ [t.dn, t.ll, t.lv, t.lr, t.dp, t.ls, t.lt], H0 b = none) → TrAt C H' o t ns [] → Q .non H'
/-- the nodes as a dict -/
def NdI (ns : List Int) (i : Nat) (kn : List (Key × V)) : Prop := kn.length ≤ i ∧ ∀ x : Int, (valV kn (Sum.inl x)).isSome = decide (x ∈ ns.take i)
theorem ndI_next {ns : List Int} {i : Nat} {x : Int} {kn : List (Key × V)} (h : NdI ns i kn) (hx : ns[i]? = some x) : NdI ns (i + 1) (putK kn (Sum.inl x) (.bl true)) := by
  refine ⟨Nat.le_trans (length_putK _ _ _) (by have := h.1; omega), fun y => ?_⟩
  rw [valV_put, List.take_add_one, hx]
  by_cases e : y = x
  · subst e
    simp
  · rw [if_neg (fun z => e (Sum.inl.inj z)), h.2 y]
    simp [e]
theorem putF_nil (f : Str) (v : V) : putF f v [] = [(f, v)] := rfl
theorem ok_init_end (T : Txt K mg) {σ : L2.St} {H0 Hc : Hp} {o dx D : Addr} {ns : List Int} {kn : List (Key × V)} (h0 : H0 o = none) (hI : InitSt H0 Hc o T.C_Trail dx [("_nodes", .ref D)] [(D, .dK kn)]) (hk : ∀ x : Int, (valV kn (Sum.inl x)).isSome = decide (x ∈ ns)) {Q : VK}
  (h : ∀ t H', Same H0 H' → (∀ b ∈ [t.dn, t.ll, t.lv, t.lr, t.dp, t.ls, t.lt], H0 b = none) → TrAt T.C_Trail H' o t ns [] → Q .non H')
  {t1 t2 t3 t4 t5 t6 t7 : TS} {Dn : Ends} (e1 : t1 = sFld K (tVar 0) (tLst tNil) "_literals") (e2 : t2 = sFld K (tVar 0) (tLst tNil) "_levels") (e3 : t3 = sFld K (tVar 0) (tLst tNil) "_reasons") (e4 : t4 = sFld K (tVar 0) tDNewK "_places") (e5 : t5 = sFld K (tVar 0) (tLst tNil) "_starts") (e6 : t6 = sFld K (tVar 0) (tLst tNil) "_tickets") (e7 : t7 = sFld K (tVar 0) (tC (.int 0)) "_next_ticket") (eD : Dn.nx = fun _ H' => Q .non H') :
    tSeq t1 (tSeq t2 (tSeq t3 (tSeq t4 (tSeq t5 (tSeq t6 t7))))) Dn (some (.ref o) :: σ) Hc := by
  subst e1 e2 e3 e4 e5 e6 e7
  refine w_seq (w_initL hI h0 T.cl_Trail T.n_Trail__literals ["_nodes"] rfl (by decide +kernel) (show 1 < 1000 by decide) fun l1 H1 h1 => ?_)
  refine w_seq (w_initL h1 h0 T.cl_Trail T.n_Trail__levels ["_nodes", "_literals"] rfl (by decide +kernel) (show 2 < 1000 by decide) fun l2 H2 h2 => ?_)
  refine w_seq (w_initL h2 h0 T.cl_Trail T.n_Trail__reasons ["_nodes", "_literals", "_levels"] rfl (by decide +kernel) (show 3 < 1000 by decide) fun l3 H3 h3 => ?_)
  refine w_seq (w_initD h3 h0 T.cl_Trail T.n_Trail__places ["_nodes", "_literals", "_levels", "_reasons"] rfl (by decide +kernel) (show 4 < 1000 by decide) fun l4 H4 h4 => ?_)
  refine w_seq (w_initL h4 h0 T.cl_Trail T.n_Trail__starts ["_nodes", "_literals", "_levels", "_reasons", "_places"] rfl (by decide +kernel) (show 5 < 1000 by decide) fun l5 H5 h5 => ?_)
  refine w_seq (w_initL h5 h0 T.cl_Trail T.n_Trail__tickets ["_nodes", "_literals", "_levels", "_reasons", "_places", "_starts"] rfl (by decide +kernel) (show 6 < 1000 by decide) fun l6 H6 h6 => ?_)
  refine w_initC h6 h0 T.cl_Trail T.n_Trail__next_ticket ["_nodes", "_literals", "_levels", "_reasons", "_places", "_starts", "_tickets"] rfl (by decide +kernel) (show 7 < 1000 by decide) fun H7 h7 => ?_
  obtain ⟨sm, ob, all, nd⟩ := h7
  rw [eD]
  simp only [List.cons_append, List.nil_append] at all
  simp only [List.cons_append, List.nil_append, List.map_cons, List.map_nil, List.nodup_cons, List.mem_cons, List.not_mem_nil, or_false, not_or, not_false_eq_true, List.nodup_nil, and_true] at nd
  obtain ⟨⟨d1, d2, d3, d4, d5, d6⟩, ⟨d7, d8, d9, d10, d11⟩, ⟨d12, d13, d14, d15⟩, ⟨d16, d17, d18⟩, ⟨d19, d20⟩, d21⟩ := nd
  have hne : ∀ p ∈ [(D, HO.dK kn), (l1, HO.lst []), (l2, HO.lst []), (l3, HO.lst []), (l4, HO.dK []), (l5, HO.lst []), (l6, HO.lst [])], H7 p.1 = some p.2 := fun p hp => (all p hp).1
  refine h ⟨dx, D, l1, l2, l3, l4, l5, l6⟩ _ sm (fun b hb => ?_) ?_
  · simp only [List.mem_cons, List.not_mem_nil, or_false] at hb
    rcases hb with rfl | rfl | rfl | rfl | rfl | rfl | rfl
    · exact (all (b, .dK kn) (by simp)).2.1
    · exact (all (b, .lst []) (by simp)).2.1
    · exact (all (b, .lst []) (by simp)).2.1
    · exact (all (b, .lst []) (by simp)).2.1
    · exact (all (b, .dK []) (by simp)).2.1
    · exact (all (b, .lst []) (by simp)).2.1
    · exact (all (b, .lst []) (by simp)).2.1
  · refine ⟨⟨0, ob⟩, ⟨kn, hne (D, .dK kn) (by simp), hk⟩, hne (l1, .lst []) (by simp), hne (l2, .lst []) (by simp), hne (l3, .lst []) (by simp), hne (l4, .dK []) (by simp), hne (l5, .lst []) (by simp), ⟨[], hne (l6, .lst []) (by simp), rfl⟩, ?_, d4⟩
    simp only [List.nodup_cons, List.mem_cons, List.not_mem_nil, or_false, not_or, not_false_eq_true, List.nodup_nil, and_true]
    exact ⟨⟨d7, d8, d10, d11⟩, ⟨d12, d14, d15⟩, ⟨d17, d18⟩, d21⟩
theorem ok_initL (T : Txt K mg) : FnOk P w K mg base CX0 1 T.f_Trail_init T.fd_Trail_init ["self", "nodes"] (spMk K T.C_Trail false) := by
  refine T.F_Trail_init.ok sc_Trail_init (fun vs H Q E h => ?_) (fun cdv A outer s H vs Q E hr h => ?_)
  · obtain ⟨o, a, dx, ns, H0, rfl, _⟩ := h
    rfl
  · obtain ⟨o, a, dx, ns, H0, rfl, rfl, h0, hdx, hne, hS, hl, h⟩ := h
    rw [if_neg (by decide)] at hS
    refine ⟨_, (pss_cons (ps_fld (pv 0) (pe_dc (own := [("node", 2)]) (g := gName 2) (tt := tYes) (by rfl) sc_Trail_init.nd (pi_list (pv 1)) (blkOk_by (own := [("node", 2)]) (N := N_Trail_init) (sc := defScope s_Trail_init) (by decide +kernel)) (fun _ _ _ _ _ => pg_name (i := 2) sc_Trail_init.nd rfl (Or.inl rfl)) (fun _ _ _ _ _ => pts_nil) (fun _ _ _ _ _ => (pv 2)) (fun _ _ _ _ _ => pe_bl)) rfl)
 (pss_cons (ps_fld (pv 0) (pe_lst pa_nil) rfl)
 (pss_cons (ps_fld (pv 0) (pe_lst pa_nil) rfl)
 (pss_cons (ps_fld (pv 0) (pe_lst pa_nil) rfl)
 (pss_cons (ps_fld (pv 0) pe_dnewK rfl)
 (pss_cons (ps_fld (pv 0) (pe_lst pa_nil) rfl)
 (pss_cons (ps_fld (pv 0) (pe_lst pa_nil) rfl)
 (pss_one (ps_fld (pv 0) pe_int rfl))))))))), ?_⟩
    refine Z.w_start (σ' := [some (.ref o), some (.ref a), none]) rfl ?_
    have s1 : Same H0 (upd (upd H0 dx (.own o)) o (.ins T.C_Trail dx [])) := same_mut (same_of (Same.refl _) hdx) h0
    refine w_seq (w_fld (L.w_dc ?_))
    refine Z.w_iList (Z.w_var (v := V.ref a) rfl ⟨a, rfl, ⟨_, Evl.ex_l s1 hS⟩, fun D hD => ?_⟩)
    have hDo : D ≠ o := fun e => by subst e; rw [upd_same] at hD; cases hD
    refine L.dc_it (walk_list (K := K) (a := a) (xs := ns.map V.int)) (fun i H' => ∃ kn, H' = upd (upd (upd H0 dx (.own o)) o (.ins T.C_Trail dx [])) D (.dK kn) ∧ NdI ns i kn) ⟨[], rfl, Nat.le_refl _, fun x => by simp [valV_nil]⟩ ?_ ?_ ?_
    · rintro i H' hi ⟨kn, rfl, _⟩
      exact Evl.ex_l (same_of s1 hD) hS
    · rintro i x H1 H' hi ⟨kn, rfl, hn⟩ ⟨rfl, hx⟩
      rw [List.getElem?_map] at hx
      rw [List.length_map] at hi
      rw [List.getElem?_eq_getElem hi] at hx
      obtain rfl := Option.some.inj hx
      refine Z.w_gname (σ' := [some (.ref o), some (.ref a), some (.int ns[i])]) rfl ⟨rfl, ?_⟩
      walk_at "w"
      refine ⟨kn, Sum.inl ns[i], rfl, upd_same, ?_, _, upd_upd, ndI_next hn (List.getElem?_eq_getElem hi)⟩
      exact Nat.lt_of_le_of_lt hn.1 (Nat.lt_trans (show i < 2000 by omega) (by decide))
    · rintro H' ⟨kn, rfl, hn⟩
      rw [List.length_map] at hn
      have hk : ∀ x : Int, (valV kn (Sum.inl x)).isSome = decide (x ∈ ns) := fun x => by rw [hn.2 x, List.take_length]
      refine Z.w_var (v := V.ref o) rfl ⟨o, T.C_Trail, dx, [], rfl, by rw [upd_ne hDo.symm, upd_same], T.cl_Trail, T.n_Trail__nodes, by decide, ?_⟩
      have hI : InitSt H0 (upd (upd (upd (upd H0 dx (.own o)) o (.ins T.C_Trail dx [])) D (.dK kn)) o (.ins T.C_Trail dx [("_nodes", .ref D)])) o T.C_Trail dx [("_nodes", .ref D)] [(D, .dK kn)] := by
        refine ⟨same_mut (same_of s1 hD) h0, upd_same, fun p hp => ?_, by simp⟩
        obtain rfl := List.mem_singleton.mp hp
        exact ⟨by rw [upd_ne hDo, upd_same], fresh_of1 s1 hD, hDo⟩
      rw [putF_nil]
      generalize upd (upd (upd (upd H0 dx (HO.own o)) o (HO.ins T.C_Trail dx [])) D (HO.dK kn)) o (HO.ins T.C_Trail dx [("_nodes", V.ref D)]) = Hc at *
      dsimp only
      with_reducible refine' ok_init_end T h0 hI hk h ?e1 ?e2 ?e3 ?e4 ?e5 ?e6 ?e7 ?e8
      all_goals rfl
end
end L

namespace MR
open PySem PySem.Spec
/-! where the node of a literal stands -/
def pos (rs : List TRow) (i : Int) : Option Nat := (rs.map fun r => r.1.natAbs).idxOf? i.natAbs
theorem idx_some {α : Type} [BEq α] [LawfulBEq α] : ∀ {xs : List α} {x : α} {k : Nat}, xs.idxOf? x = some k → xs[k]? = some x ∧ ∀ j, j < k → xs[j]? ≠ some x
  | [], x, k, h => by simp at h
  | y :: xs, x, k, h => by
    rw [List.idxOf?_cons] at h
    by_cases e : (y == x) = true
    · rw [if_pos e] at h
      obtain rfl := Option.some.inj h
      exact ⟨by rw [beq_iff_eq.mp e]; rfl, fun j hj => by omega⟩
    · rw [if_neg e] at h
      cases h2 : xs.idxOf? x with
      | none => rw [h2] at h; cases h
      | some m =>
        rw [h2] at h
        have hk : m + 1 = k := Option.some.inj h
        subst hk
        obtain ⟨g1, g2⟩ := idx_some h2
        refine ⟨by rw [List.getElem?_cons_succ]; exact g1, fun j hj => ?_⟩
        cases j with
        | zero =>
          intro z
          exact e (beq_iff_eq.mpr (Option.some.inj z))
        | succ j => rw [List.getElem?_cons_succ]; exact g2 j (by omega)
theorem idx_of {α : Type} [BEq α] [LawfulBEq α] {xs : List α} {x : α} {k : Nat} (h1 : xs[k]? = some x) (h2 : ∀ j, j < k → xs[j]? ≠ some x) : xs.idxOf? x = some k := by
  cases h : xs.idxOf? x with
  | none => exact absurd (List.mem_of_getElem? h1) (List.idxOf?_eq_none_iff.mp h)
  | some m =>
    obtain ⟨g1, g2⟩ := idx_some h
    rcases Nat.lt_trichotomy m k with l | e | l
    · exact absurd g1 (h2 m l)
    · rw [e]
    · exact absurd h1 (g2 k l)
theorem pos_some {rs : List TRow} {i : Int} {k : Nat} (h : pos rs i = some k) : ∃ r, rs[k]? = some r ∧ r.1.natAbs = i.natAbs ∧ ∀ (j : Nat) (q : TRow), j < k → rs[j]? = some q → q.1.natAbs ≠ i.natAbs := by
  obtain ⟨g1, g2⟩ := idx_some h
  rw [List.getElem?_map] at g1
  cases e : rs[k]? with
  | none => rw [e] at g1; cases g1
  | some r =>
    rw [e] at g1
    refine ⟨r, rfl, Option.some.inj g1, fun j q hj hq z => ?_⟩
    refine g2 j hj ?_
    rw [List.getElem?_map, hq]
    exact congrArg some z
theorem pos_none {rs : List TRow} {i : Int} (h : pos rs i = none) : ∀ r ∈ rs, r.1.natAbs ≠ i.natAbs := fun r hr z =>
  List.idxOf?_eq_none_iff.mp h (List.mem_map.mpr ⟨r, hr, z⟩)
theorem pos_of {rs : List TRow} {i : Int} {k : Nat} {r : TRow} (h1 : rs[k]? = some r) (h2 : r.1.natAbs = i.natAbs) (h3 : ∀ (j : Nat) (q : TRow), j < k → rs[j]? = some q → q.1.natAbs ≠ i.natAbs) : pos rs i = some k := by
  refine idx_of ?_ fun j hj z => ?_
  · rw [List.getElem?_map, h1]
    exact congrArg some h2
  · rw [List.getElem?_map] at z
    cases e : rs[j]? with
    | none => rw [e] at z; cases z
    | some q =>
      rw [e] at z
      exact h3 j q hj e (Option.some.inj z)
theorem pos_neg (rs : List TRow) (i : Int) : pos rs (-i) = pos rs i := by
  unfold pos
  rw [Int.natAbs_neg]
end MR
namespace L
open PySem PySem.Spec PyProof.Rows L2 Z M MR
theorem lits_at {rs : List TRow} {k : Nat} {r : TRow} (h : rs[k]? = some r) : (lits rs)[k]? = some r.1 := by
  unfold lits
  rw [List.getElem?_map, h]
  rfl
theorem lits_get {rs : List TRow} {k : Nat} {l : Int} (h : (lits rs)[k]? = some l) : ∃ r, rs[k]? = some r ∧ r.1 = l := by
  unfold lits at h
  rw [List.getElem?_map] at h
  cases e : rs[k]? with
  | none => rw [e] at h; cases h
  | some r => rw [e] at h; exact ⟨r, rfl, Option.some.inj h⟩
theorem twin_at {rs : List TRow} (hn : NoTwin rs) {j k : Nat} {p q : TRow} (hj : rs[j]? = some p) (hk : rs[k]? = some q) (e : p.1.natAbs = q.1.natAbs) : j = k := by
  have h1 : (rs.map fun r => r.1.natAbs)[j]? = some q.1.natAbs := by rw [List.getElem?_map, hj]; exact congrArg some e
  have h2 : (rs.map fun r => r.1.natAbs)[k]? = some q.1.natAbs := by rw [List.getElem?_map, hk]; rfl
  exact (List.getElem?_inj (by rw [List.length_map]; exact (List.getElem?_eq_some_iff.mp hj).1) hn).mp (h1.trans h2.symm)
theorem twin_lits {rs : List TRow} (hn : NoTwin rs) : (lits rs).Nodup := by
  unfold NoTwin at hn
  rw [show (rs.map fun r => r.1.natAbs) = (lits rs).map Int.natAbs by unfold lits; rw [List.map_map]; rfl] at hn
  exact List.Pairwise.of_map Int.natAbs (fun a b h z => h (congrArg _ z)) hn
/-- what is told of a literal whose node stands at k -/
theorem told_at {rs : List TRow} (hn : NoTwin rs) {i : Int} {k : Nat} {r : TRow} (h : pos rs i = some k) (hr : rs[k]? = some r) : plc rs i = some k ∧ val rs i = .bl (decide (r.1 = i)) ∧ decide (i ∈ lits rs) = decide (r.1 = i) := by
  obtain ⟨r', hr', e, hb⟩ := pos_some h
  rw [hr] at hr'
  obtain rfl := Option.some.inj hr'
  by_cases ei : r.1 = i
  · have hm : i ∈ lits rs := by rw [← ei]; exact List.mem_of_getElem? (lits_at hr)
    have hx : (lits rs).idxOf? i = some k := idx_of (by rw [lits_at hr, ei]) fun j hj z => by
      obtain ⟨q, hq, rfl⟩ := lits_get z
      exact hb j q hj hq rfl
    refine ⟨?_, ?_, ?_⟩
    · unfold plc
      rw [hx]
    · unfold val
      rw [if_pos hm, decide_eq_true ei]
    · rw [decide_eq_true hm, decide_eq_true ei]
  · have en : r.1 = -i := by omega
    have hm : i ∉ lits rs := fun z => by
      obtain ⟨j, hj⟩ := List.mem_iff_getElem?.mp z
      obtain ⟨q, hq, eq⟩ := lits_get hj
      have := twin_at hn hq hr (by rw [eq, e])
      subst this
      rw [hr] at hq
      obtain rfl := Option.some.inj hq
      exact ei eq
    have hm2 : -i ∈ lits rs := by rw [← en]; exact List.mem_of_getElem? (lits_at hr)
    have hx : (lits rs).idxOf? (-i) = some k := idx_of (by rw [lits_at hr, en]) fun j hj z => by
      obtain ⟨q, hq, eq⟩ := lits_get z
      exact hb j q hj hq (by rw [eq, Int.natAbs_neg])
    refine ⟨?_, ?_, ?_⟩
    · rw [plc_not hm, hx]
    · unfold val
      rw [if_neg hm, if_pos hm2, decide_eq_false ei]
    · rw [decide_eq_false hm, decide_eq_false ei]
theorem told_no {rs : List TRow} {i : Int} (h : pos rs i = none) : plc rs i = none ∧ val rs i = .non ∧ i ∉ lits rs ∧ -i ∉ lits rs := by
  have hb := pos_none h
  have h1 : i ∉ lits rs := fun z => by
    obtain ⟨r, hr, e⟩ := List.mem_map.mp z
    exact hb r hr (by rw [e])
  have h2 : -i ∉ lits rs := fun z => by
    obtain ⟨r, hr, e⟩ := List.mem_map.mp z
    exact hb r hr (by rw [e, Int.natAbs_neg])
  refine ⟨?_, ?_, h1, h2⟩
  · rw [plc_not h1, List.idxOf?_eq_none_iff.mpr h2]
  · unfold val
    rw [if_neg h1, if_neg h2]
end L

namespace LR
open PySem PySem.Spec PyProof.Rows L2 RT
section
variable {prog : Program} {w : World} {A : Around} {E : Value → Shared → Prop} {s : Shared}
theorem extend_rev {R : Result → Shared → Prop} (hh : A.handled = none) {it l S : Addr} {items : Array Value} {c0 : Nat} (res : Value) (hit : s.heap.IsRevIter it l ((items.size : Int) - 1)) (hl : s.heap.IsList l items) (hne : l ≠ it) (hSi : S ≠ it) (hSl : S ≠ l) (hn : items.size ≤ sizeLine)
    (hS : s.heap.get? S = some { cls := .type "list", data := .seq #[] c0 })
    (hR : ∀ h' tk acc c', (∀ b o, b ≠ S → b ≠ it → s.heap.get? b = some o → h'.get? b = some o) → h'.get? S = some { cls := .type "list", dict := none, data := .seq acc c', slots := #[] } →
      ItemsOf (fun i v => items[items.size - 1 - i]? = some v) acc items.size → R (.ok (.ret res)) { s with heap := h', toks := tk }) :
    wpAny (model prog w) A.in1 (Builtin.List.listExtendWith (.ref S) (.ref it) res)
      (fun fin s' => match fin with | .done f => R (.ok f) s' | .again c' => c'.quiet = true ∧ codeAny (model prog w) A c' R s') (fun e s' => R (.error e) s') s := by
  have W := (Walks.listRev (prog := prog) (w := w) (A := A.in1) hh it l hne items).toS
  have hSf : S ∉ [it, l] := by simp only [List.mem_cons, List.not_mem_nil, or_false, not_or]; exact ⟨hSi, hSl⟩
  have hT : s.TypeIs (.ref it) "list_reverseiterator" := hit.typeIs
  have h1 : Builtin.List.listSameRef (.ref S) (.ref it) = false := by simp [Builtin.List.listSameRef, hSi]
  unfold Builtin.List.listExtendWith
  refine wpAny_bind (wpAny_typeOf hT ?_)
  rw [if_neg (by rw [h1]; decide)]
  refine wpAny_bind (wpAny_pyIter_revIter hit ?_)
  refine wpAny_bind (wpAny_holding ?_)
  unfold Builtin.List.listLengthHint
  refine wpAny_bind (wpAny_specialOf hT nolen_lri ?_)
  show wpAny _ A.in1 (specialOf (Value.ref it) (Str.ofString "__length_hint__") >>= _) _ _ _
  refine wpAny_bind (wpAny_specialOf hT hint_lri ?_)
  generalize hid : ("list_reverseiterator.__length_hint__" : String) = id0
  wp_delta
  rw [show splitId id0 = some ("list_reverseiterator", "__length_hint__") from by subst hid; decide +kernel]
  subst hid
  refine wpAny_bind (wpAny_isInstance (b := true) hT (by rw [isSubtype_type]; kernel_rfl) ?_)
  refine wpAny_pure ?_
  rw [if_neg (by decide)]
  have e0 : ((items.size : Nat) : Int) - 1 - ((0 : Nat) : Int) = (items.size : Int) - 1 := by omega
  refine wpAny_pure ⟨plainId_quiet F.plain_extend_loop _, codeAny_extend_loopS W hn _ hSf _ items.size 0 _ _ _ rfl (Nat.zero_le _) ⟨Nat.zero_le _, by rw [e0]; exact hit, hl⟩ hS (ItemsOf.nil _) fun s' acc' c' hm hS' hacc => ?_⟩
  rw [Moved.eq_with hm]
  refine hR s'.heap s'.toks acc' c' (fun b o hb hb2 e => hm.heap b o (fun hmem => ?_) e) hS' hacc
  rcases List.mem_cons.mp hmem with e' | hmem
  · exact hb e'
  · exact hb2 (List.mem_singleton.mp hmem)
theorem init_rev {R : Result → Shared → Prop} (hh : A.handled = none) {it l S : Addr} {items : Array Value} (hit : s.heap.IsRevIter it l ((items.size : Int) - 1)) (hl : s.heap.IsList l items) (hne : l ≠ it) (hSi : S ≠ it) (hSl : S ≠ l) (hn : items.size ≤ sizeLine)
    (hS : s.heap.get? S = some { cls := .type "list", data := .seq #[] })
    (hR : ∀ h' tk acc c', (∀ b o, b ≠ S → b ≠ it → s.heap.get? b = some o → h'.get? b = some o) → h'.get? S = some { cls := .type "list", dict := none, data := .seq acc c', slots := #[] } →
      ItemsOf (fun i v => items[items.size - 1 - i]? = some v) acc items.size → R (.ok (.ret .none)) { s with heap := h', toks := tk }) :
    wpAny (model prog w) A.in1 (Builtin.«list.__init__» ⟨[.ref S, .ref it], []⟩)
      (fun fin s' => match fin with | .done f => R (.ok f) s' | .again c' => c'.quiet = true ∧ codeAny (model prog w) A c' R s') (fun e s' => R (.error e) s') s := by
  show wpAny _ _ (do let old ← Builtin.List.listItems (.ref S); Builtin.List.listUpdate (.ref S) (fun _ => #[]); letGo old.toList.reverse; Builtin.List.listExtendWith (.ref S) (.ref it) .none) _ _ s
  refine wpAny_bind ?_
  unfold Builtin.List.listItems
  refine wpAny_bind (wpAny_seqItems hS rfl (wpAny_pure ?_))
  show wpAny _ _ (updateSeq S (fun _ => #[]) >>= fun _ => letGo (#[] : Array Value).toList.reverse >>= fun _ => Builtin.List.listExtendWith (.ref S) (.ref it) .none) _ _ s
  refine wpAny_bind (wpAny_updateSeq hS rfl ?_)
  have hS₂ := Heap.get?_update_self (Obj.mapSeq (fun _ => (#[] : Array Value))) hS rfl
  have oth : ∀ b o, b ≠ S → s.heap.get? b = some o → (s.heap.update S (Obj.mapSeq (fun _ => (#[] : Array Value)))).get? b = some o :=
    fun b o hb e => (Heap.get?_update_other _ _ (Ne.symm hb)).trans e
  refine wpAny_bind (wpAny_letGo ?_)
  refine extend_rev (s := { s with heap := s.heap.update S (Obj.mapSeq (fun _ => (#[] : Array Value))) }) hh .none (hit.at fun o e => oth _ o (Ne.symm hSi) e) (hl.at fun o e => oth _ o (Ne.symm hSl) e) hne hSi hSl hn hS₂ fun h' tk acc' c' hk hS' hacc => ?_
  exact hR h' tk acc' c' (fun b o hb hb2 e => hk b o hb hb2 (oth b o hb e)) hS' hacc
theorem call_list_rev {Q : Value → Shared → Prop} (hh : A.handled = none) {it l : Addr} {items : Array Value} (hit : s.heap.IsRevIter it l ((items.size : Int) - 1)) (hl : s.heap.IsList l items) (hne : l ≠ it) (hn : items.size ≤ sizeLine)
    (hQ : ∀ h' tk acc c', (∀ b o, b ≠ it → s.heap.get? b = some o → h'.get? b = some o) → h'.get? s.heap.objs.size = some { cls := .type "list", dict := none, data := .seq acc c', slots := #[] } →
      ItemsOf (fun i v => items[items.size - 1 - i]? = some v) acc items.size → Q (.ref s.heap.objs.size) { s with heap := h', toks := tk }) :
    wpAny (model prog w) A (call (.type "list") [.ref it]) Q E s := by
  obtain ⟨oi, hoi, _⟩ := id hit
  obtain ⟨ol, hol, _⟩ := id hl
  refine callType_codes (Q₁ := fun obj s₁ => obj = .ref s.heap.objs.size ∧ s₁ = { s with heap := s.heap.push { cls := .type "list", data := .seq #[] } }) F.called_list (F.typeCall_list_1 _) F.entry_list_init
    (code_list_new _ ⟨rfl, rfl⟩) fun obj s₁ h₁ => ?_
  obtain ⟨rfl, rfl⟩ := h₁
  have hS : (s.heap.push { cls := .type "list", data := .seq #[] }).get? s.heap.objs.size = some { cls := .type "list", data := .seq #[] } := Heap.get?_push_size _ rfl
  refine ⟨⟨_, hS, rfl⟩, F.args_list_init_2 _ _, init_rev (A := A.in1) (s := { s with heap := s.heap.push { cls := .type "list", data := .seq #[] } }) hh (hit.at fun o e => Heap.get?_push_of_some _ e) (hl.push _) hne (Nat.ne_of_gt (Heap.lt_size hoi)) (Nat.ne_of_gt (Heap.lt_size hol)) hn hS fun h' tk acc' c' hk hS' hacc => ?_⟩
  exact ⟨rfl, hQ h' tk acc' c' (fun b o hb e => hk b o (Nat.ne_of_lt (Heap.lt_size e)) hb (Heap.get?_push_of_some _ e)) hS' hacc⟩
end
/-- list(reversed(x)), x a list: a new list -/
def tListRev (K : PySem.W.Frag) (te : TE) : TE := fun σ H Q => te σ H fun v H1 => ∃ (a : Addr) (xs : List V), v = .ref a ∧ SqL K H1 a xs ∧ ∀ q, H1 q = none → Q (.ref q) (upd H1 q (.lst xs.reverse))
theorem pe_listRev {X : Cx} {e : Expr} {te : TE} {p p2 pos pos2 : Pos} (hc : X.calm = true) (hg : Gl X "list") (hm : X.mg "list" = none) (hg2 : Gl X "reversed") (hm2 : X.mg "reversed" = none) (he : PE X e te)
    (hs : starEach [e] X.env = (false, eval e X.env) :: starEach [] X.env := by rfl)
    (hs2 : starEach [.Call (.Name "reversed" p2) [e] [] pos2] X.env = (false, eval (.Call (.Name "reversed" p2) [e] [] pos2) X.env) :: starEach [] X.env := by rfl) :
    PE X (.Call (.Name "list" p) [.Call (.Name "reversed" p2) [e] [] pos2] [] pos) (tListRev X.K te) := by
  refine ⟨fun pins s σ H Q I h => ?_⟩
  refine Call_ (ld_blt I hg hm boot_list (PyProof.Rows.callWith_type1 (args_cons (Call_ (ld_blt I hg2 hm2 PyProof.Rows.boot_reversed (PyProof.Rows.callWith_type1 (args_cons (thn (he.run pins s σ H _ I h) fun u s1 ⟨v, H1, I1, r1, q1⟩ => args_nil ?_) hs) hs rfl))) hs2) hs2 rfl))
  obtain ⟨a, xs, ev, hq, q⟩ := q1
  subst ev
  obtain rfl : u = Value.ref a := r1
  obtain ⟨its, rv, p', hz⟩ := I1.list hq
  refine call_reversed_list p'.isList (args_nil ?_)
  have k0 : ∀ b o, s1.heap.get? b = some o → (s1.heap.push (revObj a ((its.toArray.size : Int) - 1))).get? b = some o := fun b o e => Heap.get?_push_of_some _ e
  have I2 : Inv X pins σ H1 { s1 with heap := s1.heap.push (revObj a ((its.toArray.size : Int) - 1)) } := I1.kept (t' := s1.toks) k0
  have hl := p'.isList
  obtain ⟨ol, hol, _⟩ := id hl
  have hne : a ≠ s1.heap.objs.size := Nat.ne_of_lt (Heap.lt_size hol)
  have hn : its.toArray.size ≤ sizeLine := by rw [List.size_toArray, ← rv.length]; exact hz
  refine call_list_rev (s := { s1 with heap := s1.heap.push (revObj a ((its.toArray.size : Int) - 1)) }) (I1.ok.hd hc) ⟨_, Heap.get?_push_size _ rfl, rfl, rfl⟩ (hl.push _) hne hn fun h' tk acc c' hk hS hi => ?_
  have f := I1.fpOk (H' := H1) (b := s1.heap.objs.size) (Nat.le_refl _) (I1.hok.fresh (Nat.le_refl _))
  have I3 := I2.turnedNew (ch := [s1.heap.objs.size]) (h' := h') (t' := tk) (T := (s1.heap.push (revObj a ((its.toArray.size : Int) - 1))).objs.size) (ob := .lst xs.reverse) (fun b ob hb q => hk b ob (fun z => hb (by simp [z])) q) (fun b hb => by rw [List.mem_singleton.mp hb]; exact f) (Nat.le_refl _)
    (show ObjOk X.prog X.w _ h' _ (.lst xs.reverse) from ⟨by rw [List.length_reverse]; exact hz, acc.toList, c', vals_rev rv hi, by rw [hS, Array.toArray_toList]⟩)
  exact ⟨.ref _, _, I3, rfl, q _ (I2.hok.fresh (Nat.le_refl _))⟩
end LR

namespace L
open PySem PySem.Spec PyProof.Rows L2 Z M MR MT X2
open _root_.SX (S S_len S_cat S_inj)
section
variable {P : Program} {w : World} {K : PySem.W.Frag} {mg : Str → Option Value} {base : Heap}
/-- None, a bool or a number -/
def FlV (v : V) : Prop := v = .non ∨ (∃ b, v = .bl b) ∨ ∃ i, v = .int i
def spAlike : Sp := fun vs H Q _ => ∃ v : V, vs = [v, v] ∧ FlV v ∧ Q (.bl true) H
theorem use_alike {v : V} {H : Hp} {Q : VK} {E : XK} (h : FlV v) (q : Q (.bl true) H) : spAlike [v, v] H Q E := ⟨v, rfl, h, q⟩
theorem ok_alike (T : Txt K mg) : FnOk P w K mg base CX0 2 T.f_alike T.fd_alike ["_law_actual", "_law_expected"] spAlike := by
  have G_whole := ok_whole (P := P) (w := w) (base := base) T
  refine T.F_alike.ok sc_alike (fun vs H Q E h => ?_) (fun cdv A outer s H vs Q E hr h => ?_)
  · obtain ⟨v, rfl, _⟩ := h
    rfl
  · obtain ⟨v, rfl, hv, hq⟩ := h
    rcases hv with rfl | ⟨b, rfl⟩ | ⟨i, rfl⟩
    · refine ⟨_, (pss_cons (ps_if (pt_cmpR op_isN (pv 1) pe_non (nomark _)) (pss_one (ps_ret (pe_cmpR op_isN (pv 0) pe_non (nomark _)))) pss_nil)
 (pss_cons (ps_if (pt_val (pe_callB call_isi (by rfl) T.m_isinstance (by decide +kernel) (pa_cons (pv 1) (pa_cons (pe_bltn (v := .ty "bool") (by rfl) T.m_bool (by decide +kernel) rfl) pa_nil)))) (pss_one (ps_ret (pe_and (pe_callB call_isi (by rfl) T.m_isinstance (by decide +kernel) (pa_cons (pv 0) (pa_cons (pe_bltn (v := .ty "bool") (by rfl) T.m_bool (by decide +kernel) rfl) pa_nil))) (pe_one (pe_cmpR op_eq (pv 0) (pv 1) (nomark _)))))) pss_nil)
 (pss_one (ps_ret (pe_and (pe_call G_whole (hr.mono (by first | decide | omega)) (by rfl) T.g_whole T.F_whole.kp T.b_whole .nil pass0 (pa_cons (pv 0) pa_nil)) (pe_one (pe_cmpR op_eq (pv 0) (pv 1) (nomark _)))))))), ?_⟩
      refine Z.w_start (σ' := [some (V.non), some (V.non)]) rfl ?_
      walk_at "w"
      exact hq
    · refine ⟨_, (pss_cons (ps_if (pt_cmpR op_isN (pv 1) pe_non (nomark _)) (pss_one (ps_ret (pe_cmpR op_isN (pv 0) pe_non (nomark _)))) pss_nil)
 (pss_cons (ps_if (pt_val (pe_callB call_isi (by rfl) T.m_isinstance (by decide +kernel) (pa_cons (pv 1) (pa_cons (pe_bltn (v := .ty "bool") (by rfl) T.m_bool (by decide +kernel) rfl) pa_nil)))) (pss_one (ps_ret (pe_and (pe_callB call_isi (by rfl) T.m_isinstance (by decide +kernel) (pa_cons (pv 0) (pa_cons (pe_bltn (v := .ty "bool") (by rfl) T.m_bool (by decide +kernel) rfl) pa_nil))) (pe_one (pe_cmpR op_eq (pv 0) (pv 1) (nomark _)))))) pss_nil)
 (pss_one (ps_ret (pe_and (pe_call G_whole (hr.mono (by first | decide | omega)) (by rfl) T.g_whole T.F_whole.kp T.b_whole .nil pass0 (pa_cons (pv 0) pa_nil)) (pe_one (pe_cmpR op_eq (pv 0) (pv 1) (nomark _)))))))), ?_⟩
      refine Z.w_start (σ' := [some (.bl b), some (.bl b)]) rfl ?_
      walk_at "w"
      refine ⟨rfl, ?_⟩
      rw [decide_eq_true (rfl : V.bl b = V.bl b)]
      exact hq
    · refine ⟨_, (pss_cons (ps_if (pt_cmpR op_isN (pv 1) pe_non (nomark _)) (pss_one (ps_ret (pe_cmpR op_isN (pv 0) pe_non (nomark _)))) pss_nil)
 (pss_cons (ps_if (pt_val (pe_callB call_isi (by rfl) T.m_isinstance (by decide +kernel) (pa_cons (pv 1) (pa_cons (pe_bltn (v := .ty "bool") (by rfl) T.m_bool (by decide +kernel) rfl) pa_nil)))) (pss_one (ps_ret (pe_and (pe_callB call_isi (by rfl) T.m_isinstance (by decide +kernel) (pa_cons (pv 0) (pa_cons (pe_bltn (v := .ty "bool") (by rfl) T.m_bool (by decide +kernel) rfl) pa_nil))) (pe_one (pe_cmpR op_eq (pv 0) (pv 1) (nomark _)))))) pss_nil)
 (pss_one (ps_ret (pe_and (pe_call G_whole (hr.mono (by first | decide | omega)) (by rfl) T.g_whole T.F_whole.kp T.b_whole .nil pass0 (pa_cons (pv 0) pa_nil)) (pe_one (pe_cmpR op_eq (pv 0) (pv 1) (nomark _)))))))), ?_⟩
      refine Z.w_start (σ' := [some (.int i), some (.int i)]) rfl ?_
      walk_at "w"
      rw [decide_eq_true (rfl : i = i)]
      exact hq
def spList : Sp := fun vs H Q _ => ∃ (a b : Addr) (us : List V), vs = [.ref a, .ref b] ∧ H a = some (.lst us) ∧ H b = some (.lst us) ∧ (∀ u ∈ us, FlV u) ∧ us.length ≤ 1000 ∧ Q (.bl true) H
theorem use_list {a b : Addr} {us : List V} {H : Hp} {Q : VK} {E : XK} (h1 : H a = some (.lst us)) (h2 : H b = some (.lst us)) (h3 : ∀ u ∈ us, FlV u) (h4 : us.length ≤ 1000) (q : Q (.bl true) H) : spList [.ref a, .ref b] H Q E := ⟨a, b, us, rfl, h1, h2, h3, h4, q⟩
theorem ok_list (T : Txt K mg) : FnOk P w K mg base CX0 3 T.f_list T.fd_list ["_law_actual", "_law_expected"] spList := by
  have G_alike := ok_alike (P := P) (w := w) (base := base) T
  refine T.F_list.ok sc_list (fun vs H Q E h => ?_) (fun cdv A outer s H vs Q E hr h => ?_)
  · obtain ⟨a, b, us, rfl, _⟩ := h
    rfl
  · obtain ⟨a, b, us, rfl, ha, hb, hf, hl, h⟩ := h
    refine ⟨_, (pss_cons (ps_if (PW.pt (pw_or (pt_not (pt_val (pe_callB call_isi (by rfl) T.m_isinstance (by decide +kernel) (pa_cons (pv 0) (pa_cons (pe_bltn (v := .ty "list") (by rfl) T.m_list (by decide +kernel) rfl) pa_nil))))) (pw_or1 (pt_cmpR op_ne (pe_callB call_len_seq (by rfl) T.m_len (by decide +kernel) (pa_cons (pv 0) pa_nil)) (pe_callB call_len_seq (by rfl) T.m_len (by decide +kernel) (pa_cons (pv 1) pa_nil)) (nomark _))))) (pss_one (ps_ret pe_bl)) pss_nil)
 (pss_cons (ps_for PassesOwn.never rfl (pi_range1 (by rfl) T.m_range (pa_cons (pe_callB call_len_seq (by rfl) T.m_len (by decide +kernel) (pa_cons (pv 1) pa_nil)) pa_nil)) (pg_name (i := 2) sc_list.nd rfl (.inl rfl)) (pss_one (ps_if (pt_not (pt_val (pe_call G_alike (hr.mono (by first | decide | omega)) (by rfl) T.g_alike T.F_alike.kp T.b_alike .nil pass0 (pa_cons (pe_ix ix_list (pv 0) (pv 2) (fun _ _ => rfl)) (pa_cons (pe_ix ix_list (pv 1) (pv 2) (fun _ _ => rfl)) pa_nil))))) (pss_one (ps_ret pe_bl)) pss_nil)))
 (pss_one (ps_ret pe_bl)))), ?_⟩
    refine Z.w_start (σ' := [some (.ref a), some (.ref b), none]) rfl ?_
    walk_at "w"
    refine ⟨by omega, by omega, ?_⟩
    refine for_range (fun i σ H' => ∃ x2, σ = [some (.ref a), some (.ref b), x2] ∧ H' = H) ⟨none, rfl, rfl⟩ ?_ ?_
    · rintro i σ H' hi ⟨x2, rfl, rfl⟩
      have hi2 : i < us.length := by omega
      have hx : us[i]? = some us[i] := List.getElem?_eq_getElem hi2
      have hat : atI us (0 + (i : Int)) = some us[i] := by rw [Int.zero_add]; exact atI_nat hx
      walk_at "w"
      refine use_alike (hf _ (List.getElem_mem hi2)) ?_
      walk_at "w"
      first | exact ⟨_, rfl, rfl⟩ | exact rfl
    · rintro σ H' ⟨x2, rfl, rfl⟩
      walk_at "w"
      exact h
def GoodN (ns : List Int) : Prop := ns.Nodup ∧ (∀ n ∈ ns, 1 ≤ n ∧ n < 1000000) ∧ ns.length ≤ 30
theorem GoodN.rev {ns : List Int} (h : GoodN ns) : GoodN ns.reverse := ⟨(List.reverse_perm ns).nodup_iff.mpr h.1, fun n hn => h.2.1 n (List.mem_reverse.mp hn), by rw [List.length_reverse]; exact h.2.2⟩
theorem GoodN.rot {ns : List Int} (h : GoodN ns) (c : Nat) : GoodN (ns.drop c ++ ns.take c) := by
  have p : (ns.drop c ++ ns.take c).Perm ns := List.perm_append_comm.trans (by rw [List.take_append_drop])
  exact ⟨p.nodup_iff.mpr h.1, fun n hn => h.2.1 n (p.mem_iff.mp hn), by rw [p.length_eq]; exact h.2.2⟩
def spNodes : Sp := fun vs H Q _ => ∃ q : Addr, vs = [.ref q] ∧ PoolAt H q ∧ ∀ p ns H', PX q H H' → H p = none → H' p = some (.lst (ns.map V.int)) → GoodN ns → Q (.ref p) H'
theorem use_nodes {q : Addr} {H : Hp} {Q : VK} {E : XK} (h : PoolAt H q) (k : ∀ p ns H', PX q H H' → H p = none → H' p = some (.lst (ns.map V.int)) → GoodN ns → Q (.ref p) H') : spNodes [.ref q] H Q E := ⟨q, rfl, h, k⟩
theorem fresh_px {q p : Addr} {H H' : Hp} (s : PX q H H') (hq : PoolAt H q) (h : H' p = none) : H p = none := by
  cases e : H p with
  | none => rfl
  | some o =>
    by_cases n : p = q
    · subst n
      obtain ⟨o', h', _⟩ := s.pl
      rw [h'] at h
      cases h
    · rw [s.sx _ _ n e] at h
      cases h
theorem lst_len {ns : List Int} : (ns.map V.int).length = ns.length := List.length_map _
/-- the nodes so far, the last one n -/
def NI (ns : List Int) (i : Nat) (n : Int) : Prop := ns.length = i ∧ 0 ≤ n ∧ n ≤ 488 * (i : Int) ∧ (∀ m ∈ ns, 1 ≤ m ∧ m ≤ n) ∧ ns.Nodup
theorem NI.nil : NI [] 0 0 := ⟨rfl, by omega, by omega, fun m hm => by simp at hm, List.nodup_nil⟩
theorem NI.next {ns : List Int} {i : Nat} {n r : Int} (h : NI ns i n) (h0 : 0 ≤ r) (h1 : r < 487) : NI (ns ++ [n + 1 + r]) (i + 1) (n + 1 + r) := by
  obtain ⟨a, b, c, d, e⟩ := h
  refine ⟨by rw [List.length_append, a]; rfl, by omega, by omega, fun m hm => ?_, ?_⟩
  · rcases List.mem_append.mp hm with z | z
    · have := d m z
      omega
    · rw [List.mem_singleton.mp z]
      omega
  · refine List.nodup_append.mpr ⟨e, by simp, fun a ha b hb z => ?_⟩
    rw [List.mem_singleton.mp hb] at z
    have := d a ha
    omega
theorem NI.good {ns : List Int} {i : Nat} {n : Int} (h : NI ns i n) (hi : i ≤ 30) : GoodN ns := by
  obtain ⟨a, b, c, d, e⟩ := h
  exact ⟨e, fun m hm => by have := d m hm; omega, by omega⟩
theorem ok_nodes (T : Txt K mg) : FnOk P w K mg base CX0 2 T.f_nodes_of T.fd_nodes_of ["_law_pool_here"] spNodes := by
  have G_take := ok_take (P := P) (w := w) (base := base) T
  refine T.F_nodes_of.ok sc_nodes_of (fun vs H Q E h => ?_) (fun cdv A outer s H vs Q E hr h => ?_)
  · obtain ⟨q, rfl, _⟩ := h
    rfl
  · obtain ⟨q, rfl, hp, h⟩ := h
    refine ⟨_, (pss_cons (ps_set (i := 1) sc_nodes_of.nd rfl (.inl rfl) (pe_ix ix_tup (pe_tup (pa_cons pe_int (pa_cons pe_int (pa_cons pe_int (pa_cons pe_int (pa_cons pe_int (pa_cons pe_int (pa_cons pe_int (pa_cons pe_int (pa_cons pe_int (pa_cons pe_int (pa_cons pe_int (pa_cons pe_int (pa_cons pe_int (pa_cons pe_int (pa_cons pe_int (pa_cons pe_int pa_nil))))))))))))))))) (pe_call G_take (hr.mono (by first | decide | omega)) (by rfl) T.g_take T.F_take.kp T.b_take .nil pass0 (pa_cons (pv 0) (pa_cons pe_int pa_nil))) (fun _ _ => rfl)))
 (pss_cons (ps_set (i := 2) sc_nodes_of.nd rfl (.inl rfl) (pe_tup (pa_cons pe_int (pa_cons pe_int (pa_cons pe_int (pa_cons (pe_op op_fdiv pe_int (pe_callB (call_max2 rfl) (by rfl) T.m_max (by decide +kernel) (pa_cons pe_int (pa_cons (pv 1) pa_nil)))) pa_nil))))))
 (pss_cons (ps_set (i := 3) sc_nodes_of.nd rfl (.inl rfl) (pe_lst pa_nil))
 (pss_cons (ps_set (i := 4) sc_nodes_of.nd rfl (.inl rfl) pe_int)
 (pss_cons (ps_for PassesOwn.never rfl (pi_range1 (by rfl) T.m_range (pa_cons (pv 1) pa_nil)) (pg_name (i := 5) sc_nodes_of.nd rfl (.inl rfl)) (pss_cons (ps_set (i := 4) sc_nodes_of.nd rfl (.inl rfl) (pe_op op_add (pe_op op_add (pv 4) pe_int) (pe_call G_take (hr.mono (by first | decide | omega)) (by rfl) T.g_take T.F_take.kp T.b_take .nil pass0 (pa_cons (pv 0) (pa_cons (pe_ix ix_tup (pv 2) (pe_call G_take (hr.mono (by first | decide | omega)) (by rfl) T.g_take T.F_take.kp T.b_take .nil pass0 (pa_cons (pv 0) (pa_cons pe_int pa_nil))) (fun _ _ => rfl)) pa_nil)))))
 (pss_one (ps_expr (pe_bm PySem.F.plainAttrs_list PySem.F.slot_list_append PySem.F.type_list_append mt_append (pv 3) (pa_cons (pv 4) pa_nil))))))
 (pss_cons (ps_set (i := 6) sc_nodes_of.nd rfl (.inl rfl) (pe_call G_take (hr.mono (by first | decide | omega)) (by rfl) T.g_take T.F_take.kp T.b_take .nil pass0 (pa_cons (pv 0) (pa_cons (pe_op op_add (pv 1) pe_int) pa_nil))))
 (pss_cons (ps_set (i := 3) sc_nodes_of.nd rfl (.inl rfl) (pe_op op_cat (pe_slice sl_list (pv 3) (po_some (pv 6)) po_none) (pe_slice sl_list (pv 3) po_none (po_some (pv 6)))))
 (pss_cons (ps_if (pt_cmpR op_eq (pe_call G_take (hr.mono (by first | decide | omega)) (by rfl) T.g_take T.F_take.kp T.b_take .nil pass0 (pa_cons (pv 0) (pa_cons pe_int pa_nil))) pe_int (nomark _)) (pss_one (ps_ret (LR.pe_listRev (by rfl) (by rfl) T.m_list (by rfl) T.m_reversed (pv 3)))) pss_nil)
 (pss_one (ps_ret (pv 3))))))))))), ?_⟩
    refine Z.w_start (σ' := [some (.ref q), none, none, none, none, none, none]) rfl ?_
    walk_at "w"
    rename_i p1 f1 r H1 x1 r0 r1
    have s1 := fun o => same_of (Same.refl H) f1 (o := o)
    obtain ⟨z, za, zm⟩ := pick (ns := [5, 4, 7, 6, 1, 7, 2, 5, 6, 3, 7, 4, 5, 30, 7, 0]) r0 r1
    have z2 : 0 ≤ z ∧ z ≤ 30 := by
      simp only [List.mem_cons, List.not_mem_nil, or_false] at zm
      omega
    refine Z.w_ixTH (x1.mo _ _ (fun l e => by cases e) upd_same) za ?_
    have y1 : PX q H H1 := ⟨(Mo.of (s1 _)).trans x1.mo, x1.pl, fun b x n e => x1.sx _ _ n (s1 _ _ _ e)⟩
    have hm : 8 ≤ (if z > 8 then z else 8) ∧ (if z > 8 then z else 8) ≤ 30 := by split <;> omega
    walk_at "w"
    rename_i g fg l fl
    have hg4 : 1 ≤ 3900 / (if z > 8 then z else 8) ∧ 3900 / (if z > 8 then z else 8) ≤ 487 := by
      generalize (if z > 8 then z else 8) = m at hm
      refine ⟨Int.le_ediv_of_mul_le (by omega) (by omega), ?_⟩
      have : 3900 / m < 488 := Int.ediv_lt_of_lt_mul (by omega) (by omega)
      omega
    generalize 3900 / (if z > 8 then z else 8) = g4 at *
    have ngl : g ≠ l := fun e => by subst e; rw [upd_same] at fl; cases fl
    have y2 : PX q H (upd (upd H1 g (.tup [.int 1, .int 3, .int 40, .int g4])) l (.lst [])) := (y1.new fg).new fl
    have nlq : l ≠ q := fun e => by
      subst e
      obtain ⟨o, h1, _⟩ := (y1.new fg (o := .tup [.int 1, .int 3, .int 40, .int g4])).pl
      rw [h1] at fl
      cases fl
    have fgH : H g = none := fresh_px y1 hp fg
    have flH : H l = none := fresh_px (y1.new fg) hp fl
    refine ⟨by omega, by omega, ?_⟩
    refine for_range (fun i σ H' => ∃ x5 ns n, σ = [some (.ref q), some (.int z), some (.ref g), some (.ref l), some (.int n), x5, none] ∧ PX q H H' ∧ H' g = some (.tup [.int 1, .int 3, .int 40, .int g4]) ∧ H' l = some (.lst (ns.map V.int)) ∧ NI ns i n) ?_ ?_ ?_
    · exact ⟨none, [], 0, rfl, y2, by rw [upd_ne ngl, upd_same], upd_same, NI.nil⟩
    · rintro i σ H' hi ⟨x5, ns, n, rfl, px, eg, el, hn⟩
      have hi2 : i < 30 := by omega
      walk_at "w"
      rename_i r2 H2 px2 r20 r21
      have eg2 := px2.mo _ _ (fun l e => by cases e) eg
      obtain ⟨z4, za4, zm4⟩ := pick (ns := [1, 3, 40, g4]) r20 r21
      have z42 : 1 ≤ z4 ∧ z4 ≤ 487 := by
        simp only [List.mem_cons, List.not_mem_nil, or_false] at zm4
        omega
      refine Z.w_ixTH eg2 za4 ?_
      walk_at "w"
      rename_i r3 H3 px3 r30 r31
      have el3 := px3.sx _ _ nlq (px2.sx _ _ nlq el)
      have eg3 := px3.mo _ _ (fun l e => by cases e) eg2
      refine Z.w_bm ?_
      walk_at "w"
      refine ⟨.inl ⟨rfl, _, .inl (.inl el3)⟩, ?_⟩
      walk_at "w"
      refine ⟨l, _, _, rfl, rfl, el3, ?_, ?_⟩
      · rw [lst_len, hn.1]
        exact Nat.lt_trans hi2 (by decide)
      · refine ⟨_, ns ++ [n + 1 + r3], _, rfl, ⟨((px.trans px2).trans px3).mo.own flH, ?_, ?_⟩, ?_, ?_, hn.next (by omega) (by omega)⟩
        · obtain ⟨o, h1, h2⟩ := px3.pl
          exact ⟨o, by rw [upd_ne nlq.symm]; exact h1, h2⟩
        · intro b x n e
          rw [upd_ne (ne_of_none e flH)]
          exact ((px.trans px2).trans px3).sx b x n e
        · rw [upd_ne ngl]
          exact eg3
        · rw [upd_same, List.map_append]
          rfl
    · rintro σ H' ⟨x5, ns, n, rfl, px, eg, el, hn⟩
      have hgn : GoodN ns := hn.good (by omega)
      have hns : ns.length ≤ 30 := hgn.2.2
      walk_at "w"
      rename_i c H2 px2 c0 c1
      have el2 := px2.sx _ _ nlq el
      have pxx := px.trans px2
      obtain ⟨c', rfl⟩ := Int.eq_ofNat_of_zero_le c0
      have hc' : c' ≤ (ns.map V.int).length := by rw [lst_len, hn.1]; omega
      refine w_slFrom (.inl (.inl el2)) hc' fun p3 f3 => ?_
      walk_at "w"
      refine w_slTo (.inl (.inl (upd_of f3 el2))) hc' fun p4 f4 => ?_
      have s4 := same_of (same_of (Same.refl H2) f3 (o := .lst ((ns.map V.int).drop c'))) f4 (o := .lst ((ns.map V.int).take c'))
      refine ⟨p3, p4, _, _, rfl, rfl, upd_of f4 upd_same, upd_same, ?_, fun p5 f5 => ?_⟩
      · rw [List.length_drop, List.length_take, lst_len]
        exact Nat.le_trans (show _ ≤ 100 by omega) (by decide)
      · have er : (ns.map V.int).drop c' ++ (ns.map V.int).take c' = (ns.drop c' ++ ns.take c').map V.int := by rw [List.map_append, List.map_drop, List.map_take]
        rw [er]
        have s5 := same_of s4 f5 (o := .lst ((ns.drop c' ++ ns.take c').map V.int))
        have px5 := pxx.same s5
        have hg5 := hgn.rot c'
        have f5H : H p5 = none := fresh_px (pxx.same s4) hp f5
        have e5 : upd (upd (upd H2 p3 (.lst ((ns.map V.int).drop c'))) p4 (.lst ((ns.map V.int).take c'))) p5 (.lst ((ns.drop c' ++ ns.take c').map V.int)) p5 = some (.lst ((ns.drop c' ++ ns.take c').map V.int)) := upd_same
        generalize upd (upd (upd H2 p3 (.lst ((ns.map V.int).drop c'))) p4 (.lst ((ns.map V.int).take c'))) p5 (.lst ((ns.drop c' ++ ns.take c').map V.int)) = H5 at *
        generalize ns.drop c' ++ ns.take c' = ms at *
        have pl5 := px5.pl
        walk_at "w"
        rename_i r6 H6 px6 r60 r61
        have np5 : p5 ≠ q := fun e => by
          subst e
          obtain ⟨o, h1, _⟩ := hp
          rw [h1] at f5H
          cases f5H
        have e6 := px6.sx _ _ np5 e5
        have px56 := px5.trans px6
        walk_at "wi"
        · walk_at "w"
          refine Z.w_var (v := V.ref p5) rfl ⟨p5, _, rfl, .inl (.inl e6), fun p7 f7 => ?_⟩
          walk_at "w"
          refine h p7 ms.reverse _ (px56.new f7) (fresh_px px56 hp f7) ?_ hg5.rev
          rw [upd_same, List.map_reverse]
        · walk_at "w"
          exact h p5 ms _ px56 f5H e6 hg5
/-- a number that is no node -/
def spStranger : Sp := fun vs H Q _ => ∃ (q N : Addr) (ns : List Int), vs = [.ref q, .ref N] ∧ PoolAt H q ∧ H N = some (.lst (ns.map V.int)) ∧ N ≠ q ∧ GoodN ns ∧ ∀ i H', PX q H H' → i ∉ ns → 1 ≤ i → i < 2000000 → Q (.int i) H'
theorem use_stranger {q N : Addr} {ns : List Int} {H : Hp} {Q : VK} {E : XK} (h1 : PoolAt H q) (h2 : H N = some (.lst (ns.map V.int))) (h3 : N ≠ q) (h4 : GoodN ns) (k : ∀ i H', PX q H H' → i ∉ ns → 1 ≤ i → i < 2000000 → Q (.int i) H') : spStranger [.ref q, .ref N] H Q E := ⟨q, N, ns, rfl, h1, h2, h3, h4, k⟩
theorem ok_stranger (T : Txt K mg) : FnOk P w K mg base CX0 2 T.f_stranger T.fd_stranger ["_law_pool_here", "_law_nodes"] spStranger := by
  have G_take := ok_take (P := P) (w := w) (base := base) T
  refine T.F_stranger.ok sc_stranger (fun vs H Q E h => ?_) (fun cdv A outer s H vs Q E hr h => ?_)
  · obtain ⟨q, N, ns, rfl, _⟩ := h
    rfl
  · obtain ⟨q, N, ns, rfl, hp, hN, nq, hg, h⟩ := h
    have hns : ns.length ≤ 30 := hg.2.2
    refine ⟨_, (pss_cons (ps_set (i := 2) sc_stranger.nd rfl (.inl rfl) (pe_op op_add pe_int (pe_call G_take (hr.mono (by first | decide | omega)) (by rfl) T.g_take T.F_take.kp T.b_take .nil pass0 (pa_cons (pv 0) (pa_cons pe_int pa_nil)))))
 (pss_cons (ps_if (PW.pt (pw_and (pt_cmpR op_gt (pe_callB call_len_seq (by rfl) T.m_len (by decide +kernel) (pa_cons (pv 1) pa_nil)) pe_int (nomark _)) (pw_and1 (pt_cmpR op_eq (pe_call G_take (hr.mono (by first | decide | omega)) (by rfl) T.g_take T.F_take.kp T.b_take .nil pass0 (pa_cons (pv 0) (pa_cons pe_int pa_nil))) pe_int (nomark _))))) (pss_one (ps_set (i := 2) sc_stranger.nd rfl (.inl rfl) (pe_op op_add (pe_ix ix_list (pv 1) (pe_call G_take (hr.mono (by first | decide | omega)) (by rfl) T.g_take T.F_take.kp T.b_take .nil pass0 (pa_cons (pv 0) (pa_cons (pe_callB call_len_seq (by rfl) T.m_len (by decide +kernel) (pa_cons (pv 1) pa_nil)) pa_nil))) (fun _ _ => rfl)) pe_int))) pss_nil)
 (pss_cons (ps_for PassesOwn.never rfl (pi_range1 (by rfl) T.m_range (pa_cons (pe_callB call_len_seq (by rfl) T.m_len (by decide +kernel) (pa_cons (pv 1) pa_nil)) pa_nil)) (pg_name (i := 3) sc_stranger.nd rfl (.inl rfl)) (pss_one (ps_if (pt_cmpR op_notIn_seq (pe_op op_add (pv 2) (pv 3)) (pv 1) rfl) (pss_one (ps_ret (pe_op op_add (pv 2) (pv 3)))) pss_nil)))
 (pss_one (ps_ret (pe_op op_add (pv 2) (pe_callB call_len_seq (by rfl) T.m_len (by decide +kernel) (pa_cons (pv 1) pa_nil)))))))), ?_⟩
    refine Z.w_start (σ' := [some (.ref q), some (.ref N), none, none]) rfl ?_
    repeat' (first | with_reducible refine seqIf (fun σ' H2 => ∃ z, σ' = [some (.ref q), some (.ref N), some (.int z), none] ∧ PX q H H2 ∧ 1 ≤ z ∧ z < 1000001) (fun R kk => ?_) ?_ | walk_at "w1")
    · rename_i r1 H1 px1 r10 r11
      have hN1 := px1.sx _ _ nq hN
      have hS1 : SqL K H1 N (ns.map V.int) := .inl (.inl hN1)
      walk_at "w"
      rw [lst_len]
      walk_at "wi"
      · walk_at "w"
        rename_i r2 H2 px2 r20 r21
        have px12 := px1.trans px2
        walk_at "wi"
        · walk_at "w"
          have hN2 := px2.sx _ _ nq hN1
          have hS2 : SqL K H2 N (ns.map V.int) := .inl (.inl hN2)
          have hl2 : (ns.map V.int).length = ns.length := lst_len
          walk_at "w"
          rename_i r3 H3 px3 r30 r31
          obtain ⟨z, za, zm⟩ := pick (ns := ns) r30 (by omega)
          have := hg.2.1 z zm
          refine Z.w_ixH (px3.sx _ _ nq hN2) za ?_
          walk_at "w"
          exact kk _ _ ⟨_, rfl, px12.trans px3, by omega, by omega⟩
        · walk_at "w"
          exact kk _ _ ⟨_, rfl, px12, by omega, by omega⟩
      · walk_at "w"
        exact kk _ _ ⟨_, rfl, px1, by omega, by omega⟩
    · rintro σ' H2 ⟨z, rfl, px, z0, z1⟩
      have hN2 := px.sx _ _ nq hN
      have hS2 : SqL K H2 N (ns.map V.int) := .inl (.inl hN2)
      walk_at "w"
      rw [lst_len]
      refine ⟨by omega, by omega, ?_⟩
      refine for_range (fun i σ H' => ∃ x3, σ = [some (.ref q), some (.ref N), some (.int z), x3] ∧ H' = H2 ∧ ∀ j : Nat, j < i → z + (j : Int) ∈ ns) ?_ ?_ ?_
      · exact ⟨none, rfl, rfl, fun j hj => by omega⟩
      · rintro i σ H' hi ⟨x3, rfl, rfl, ha⟩
        walk_at "w"
        refine w_opin (.inl hS2) rfl (flat_ints ns) ?_
        rw [inV_int, Int.zero_add]
        try simp only [if_true]
        by_cases hm : z + (i : Int) ∈ ns
        · rw [decide_eq_true hm]
          have hn : ∀ j : Nat, j < i + 1 → z + (j : Int) ∈ ns := fun j hj => by
            by_cases e : j = i
            · rw [e]
              exact hm
            · exact ha j (by omega)
          walk_at "w"
          first | exact ⟨_, rfl, rfl, hn⟩ | exact ⟨rfl, hn⟩ | exact hn
        · rw [decide_eq_false hm]
          walk_at "w"
          try rw [Int.zero_add]
          walk_at "w"
          have e0 : z + (0 + (i : Int)) = z + (i : Int) := by omega
          first | exact h _ _ px hm (by omega) (by omega) | (rw [e0]; exact h _ _ px hm (by omega) (by omega))
      · rintro σ H' ⟨x3, rfl, rfl, ha⟩
        walk_at "w"
        rw [lst_len]
        refine h _ _ px (fun hm => ?_) (by omega) (by omega)
        have en : ((ns.length : Int)).toNat = ns.length := by omega
        rw [en] at ha
        have hsub : (List.range (ns.length + 1)).map (fun j : Nat => z + (j : Int)) ⊆ ns := fun y hy => by
          obtain ⟨j, hj, rfl⟩ := List.mem_map.mp hy
          have := List.mem_range.mp hj
          by_cases e : j = ns.length
          · rw [e]
            exact hm
          · exact ha j (by omega)
        have hnd : ((List.range (ns.length + 1)).map (fun j : Nat => z + (j : Int))).Nodup := List.Pairwise.map _ (fun a b h z => h (by omega)) List.nodup_range
        have hle := List.Nodup.length_le_of_subset hnd hsub
        rw [List.length_map, List.length_range] at hle
        omega
end
end L

namespace L
open PySem PySem.Spec PyProof.Rows L2 Z M MR MT X2
open _root_.SX (S S_len S_cat S_inj)
/-! the law's own rows -/
def RowsV (H : Hp) (us : List V) (rs : List TRow) : Prop := us.length = rs.length ∧ ∀ k r, rs[k]? = some r → ∃ p, us[k]? = some (.ref p) ∧ H p = some (.tup [.int r.1, .int (lev rs k : Int), rV r.2])
theorem RowsV.nil {H : Hp} : RowsV H [] [] := ⟨rfl, fun k r h => by simp at h⟩
/-- tuples stay -/
def TupS (H H' : Hp) : Prop := ∀ b xs, H b = some (.tup xs) → H' b = some (.tup xs)
theorem TupS.ofM {H H' : Hp} (h : Mo H H') : TupS H H' := fun b xs e => h b _ (fun l z => by cases z) e
theorem TupS.of {H H' : Hp} (h : Same H H') : TupS H H' := fun b xs e => h b _ e
theorem TupS.trans {H H1 H2 : Hp} (a : TupS H H1) (b : TupS H1 H2) : TupS H H2 := fun c xs e => b c xs (a c xs e)
theorem RowsV.tup {H H' : Hp} {us : List V} {rs : List TRow} (h : RowsV H us rs) (s : TupS H H') : RowsV H' us rs := ⟨h.1, fun k r e => by
  obtain ⟨p, h1, h2⟩ := h.2 k r e
  exact ⟨p, h1, s _ _ h2⟩⟩
theorem RowsV.snoc {H : Hp} {us : List V} {rs : List TRow} {p : Addr} {r : TRow} (h : RowsV H us rs) (hp : H p = some (.tup [.int r.1, .int (dep (rs ++ [r]) : Int), rV r.2])) : RowsV H (us ++ [.ref p]) (rs ++ [r]) := by
  refine ⟨by rw [List.length_append, List.length_append, h.1]; rfl, fun k x e => ?_⟩
  by_cases hk : k < rs.length
  · rw [List.getElem?_append_left hk] at e
    obtain ⟨b, h1, h2⟩ := h.2 k x e
    exact ⟨b, by rw [List.getElem?_append_left (by rw [h.1]; exact hk)]; exact h1, by rw [lev_app hk]; exact h2⟩
  · have hk2 := (List.getElem?_eq_some_iff.mp e).1
    rw [List.length_append, List.length_singleton] at hk2
    obtain rfl : k = rs.length := by omega
    rw [List.getElem?_append_right (Nat.le_refl _), Nat.sub_self] at e
    obtain rfl := Option.some.inj e
    refine ⟨p, ?_, ?_⟩
    · rw [List.getElem?_append_right (by rw [h.1]; exact Nat.le_refl _), h.1, Nat.sub_self]
      rfl
    · rw [lev_last]
      exact hp
theorem lev_take {rs : List TRow} {n k : Nat} (h : k < n) : lev (rs.take n) k = lev rs k := by
  unfold lev
  rw [List.take_take, Nat.min_eq_left (by omega)]
theorem RowsV.take {H : Hp} {us : List V} {rs : List TRow} (h : RowsV H us rs) (n : Nat) : RowsV H (us.take n) (rs.take n) := by
  refine ⟨by rw [List.length_take, List.length_take, h.1], fun k r e => ?_⟩
  rw [List.getElem?_take] at e
  split at e
  · rename_i hk
    obtain ⟨p, h1, h2⟩ := h.2 k r e
    exact ⟨p, by rw [List.getElem?_take, if_pos hk]; exact h1, by rw [lev_take hk]; exact h2⟩
  · cases e
/-- the place of a literal's node -/
def pV : Option Nat → V
  | some k => .int (k : Int)
  | none => .int (-1)
section
variable {P : Program} {w : World} {K : PySem.W.Frag} {mg : Str → Option Value} {base : Heap}
def spPlace : Sp := fun vs H Q _ => ∃ (R : Addr) (us : List V) (rs : List TRow) (i : Int), vs = [.ref R, .int i] ∧ H R = some (.lst us) ∧ RowsV H us rs ∧ rs.length ≤ 100 ∧ Q (pV (pos rs i)) H
theorem use_place {R : Addr} {us : List V} {rs : List TRow} {i : Int} {H : Hp} {Q : VK} {E : XK} (h1 : H R = some (.lst us)) (h2 : RowsV H us rs) (h3 : rs.length ≤ 100) (q : Q (pV (pos rs i)) H) : spPlace [.ref R, .int i] H Q E := ⟨R, us, rs, i, rfl, h1, h2, h3, q⟩
theorem ok_Lplace (T : Txt K mg) : FnOk P w K mg base CX0 1 T.f_place T.fd_place ["_law_rows", "_law_literal_here"] spPlace := by
  refine T.F_place.ok sc_place (fun vs H Q E h => ?_) (fun cdv A outer s H vs Q E hr h => ?_)
  · obtain ⟨R, us, rs, i, rfl, _⟩ := h
    rfl
  · obtain ⟨R, us, rs, i, rfl, hR, hv, hl, h⟩ := h
    have hul := hv.1
    refine ⟨_, (pss_cons (ps_for PassesOwn.never rfl (pi_range1 (by rfl) T.m_range (pa_cons (pe_callB call_len_seq (by rfl) T.m_len (by decide +kernel) (pa_cons (pv 0) pa_nil)) pa_nil)) (pg_name (i := 2) sc_place.nd rfl (.inl rfl)) (pss_one (ps_if (pt_cmpR op_eq (pe_callB call_abs (by rfl) T.m_abs (by decide +kernel) (pa_cons (pe_ix ix_tup (pe_ix ix_list (pv 0) (pv 2) (fun _ _ => rfl)) pe_int (fun _ _ => rfl)) pa_nil)) (pe_callB call_abs (by rfl) T.m_abs (by decide +kernel) (pa_cons (pv 1) pa_nil)) (nomark _)) (pss_one (ps_ret (pv 2))) pss_nil)))
 (pss_one (ps_ret (pe_un un_neg pe_int)))), ?_⟩
    refine Z.w_start (σ' := [some (.ref R), some (.int i), none]) rfl ?_
    walk_at "w"
    refine ⟨by omega, by omega, ?_⟩
    refine for_range (fun k σ H' => ∃ x2, σ = [some (.ref R), some (.int i), x2] ∧ H' = H ∧ ∀ (j : Nat) (q : TRow), j < k → rs[j]? = some q → q.1.natAbs ≠ i.natAbs) ?_ ?_ ?_
    · exact ⟨none, rfl, rfl, fun j q hj => by omega⟩
    · rintro k σ H' hk ⟨x2, rfl, rfl, ha⟩
      have hk2 : k < rs.length := by omega
      have hr2 : rs[k]? = some rs[k] := List.getElem?_eq_getElem hk2
      obtain ⟨p, h1, h2⟩ := hv.2 k _ hr2
      have hat : atI us (0 + (k : Int)) = some (.ref p) := by rw [Int.zero_add]; exact atI_nat h1
      walk_at "w"
      rw [abs_nat, abs_nat]
      by_cases e : rs[k].1.natAbs = i.natAbs
      · have e2 : pos rs i = some k := pos_of hr2 e ha
        rw [e2] at h
        refine Z.w_iteT (by omega) ?_
        walk_at "w"
        have ek : (0 : Int) + (k : Int) = (k : Int) := by omega
        rw [ek]
        exact h
      · have hn : ∀ (j : Nat) (q : TRow), j < k + 1 → rs[j]? = some q → q.1.natAbs ≠ i.natAbs := fun j q hj hq => by
          by_cases ej : j = k
          · subst ej
            rw [hr2] at hq
            obtain rfl := Option.some.inj hq
            exact e
          · exact ha j q (by omega) hq
        refine Z.w_iteF (by omega) ?_
        walk_at "w"
        first | exact ⟨_, rfl, rfl, hn⟩ | exact ⟨rfl, hn⟩ | exact hn
    · rintro σ H' ⟨x2, rfl, rfl, ha⟩
      have e2 : pos rs i = none := by
        cases e : pos rs i with
        | none => rfl
        | some k =>
          obtain ⟨r, hr2, hr3, _⟩ := pos_some e
          have := (List.getElem?_eq_some_iff.mp hr2).1
          exact absurd hr3 (ha k r (by omega) hr2)
      rw [e2] at h
      walk_at "w"
      exact h
def spLiteral : Sp := fun vs H Q _ => ∃ (q N R : Addr) (ns : List Int) (us : List V) (rs : List TRow), vs = [.ref q, .ref N, .ref R] ∧ PoolAt H q ∧ H N = some (.lst (ns.map V.int)) ∧ N ≠ q ∧ GoodN ns ∧ H R = some (.lst us) ∧ R ≠ q ∧ RowsV H us rs ∧ rs.length ≤ 100 ∧
  ∀ i H', PX q H H' → 1 ≤ i.natAbs → i.natAbs < 2000000 → Q (.int i) H'
theorem pV_int (o : Option Nat) : ∃ z : Int, pV o = .int z := by cases o <;> exact ⟨_, rfl⟩
theorem ok_Lliteral (T : Txt K mg) : FnOk P w K mg base CX0 3 T.f_literal T.fd_literal ["_law_pool_here", "_law_nodes", "_law_rows"] spLiteral := by
  have G_take := ok_take (P := P) (w := w) (base := base) T
  have G_stranger := ok_stranger (P := P) (w := w) (base := base) T
  have G_place := ok_Lplace (P := P) (w := w) (base := base) T
  refine T.F_literal.ok sc_literal (fun vs H Q E h => ?_) (fun cdv A outer s H vs Q E hr h => ?_)
  · obtain ⟨q, N, R, ns, us, rs, rfl, _⟩ := h
    rfl
  · obtain ⟨q, N, R, ns, us, rs, rfl, hp, hN, nNq, hg, hR, nRq, hv, hl, h⟩ := h
    have hns : ns.length ≤ 30 := hg.2.2
    have hl2 : (ns.map V.int).length = ns.length := lst_len
    refine ⟨_, (pss_cons (ps_set (i := 3) sc_literal.nd rfl (.inl rfl) (pe_call G_take (hr.mono (by first | decide | omega)) (by rfl) T.g_take T.F_take.kp T.b_take .nil pass0 (pa_cons (pv 0) (pa_cons pe_int pa_nil))))
 (pss_cons (ps_if (PW.pt (pw_or (pt_cmpR op_gt (pv 3) pe_int (nomark _)) (pw_or1 (pt_cmpR op_eq (pe_callB call_len_seq (by rfl) T.m_len (by decide +kernel) (pa_cons (pv 1) pa_nil)) pe_int (nomark _))))) (pss_one (ps_set (i := 4) sc_literal.nd rfl (.inl rfl) (pe_call G_stranger (hr.mono (by first | decide | omega)) (by rfl) T.g_stranger T.F_stranger.kp T.b_stranger .nil pass0 (pa_cons (pv 0) (pa_cons (pv 1) pa_nil))))) (pss_cons (ps_set (i := 5) sc_literal.nd rfl (.inl rfl) (pe_call G_take (hr.mono (by first | decide | omega)) (by rfl) T.g_take T.F_take.kp T.b_take .nil pass0 (pa_cons (pv 0) (pa_cons (pe_callB call_len_seq (by rfl) T.m_len (by decide +kernel) (pa_cons (pv 1) pa_nil)) pa_nil))))
 (pss_cons (ps_set (i := 4) sc_literal.nd rfl (.inl rfl) (pe_ix ix_list (pv 1) (pv 5) (fun _ _ => rfl)))
 (pss_one (ps_for PassesOwn.never rfl (pi_range1 (by rfl) T.m_range (pa_cons (pe_callB call_len_seq (by rfl) T.m_len (by decide +kernel) (pa_cons (pv 1) pa_nil)) pa_nil)) (pg_name (i := 6) sc_literal.nd rfl (.inl rfl)) (pss_cons (ps_set (i := 7) sc_literal.nd rfl (.inl rfl) (pe_ix ix_list (pv 1) (pe_op op_mod (pe_callTy call_int1 (by rfl) T.m_int (by decide +kernel) (pa_cons (pe_op op_add (pv 5) (pv 6)) pa_nil)) (pe_callB call_len_seq (by rfl) T.m_len (by decide +kernel) (pa_cons (pv 1) pa_nil))) (fun _ _ => rfl)))
 (pss_one (ps_if (PW.pt (pw_and (pt_cmpR op_gt (pv 3) pe_int (nomark _)) (pw_and1 (pt_cmpR op_lt (pe_call G_place (hr.mono (by first | decide | omega)) (by rfl) T.g_place T.F_place.kp T.b_place .nil pass0 (pa_cons (pv 2) (pa_cons (pv 7) pa_nil))) pe_int (nomark _))))) (pss_cons (ps_set (i := 4) sc_literal.nd rfl (.inl rfl) (pv 7))
 (pss_one ps_break)) pss_nil))))))))
 (pss_cons (ps_if (pt_cmpR op_eq (pe_call G_take (hr.mono (by first | decide | omega)) (by rfl) T.g_take T.F_take.kp T.b_take .nil pass0 (pa_cons (pv 0) (pa_cons pe_int pa_nil))) pe_int (nomark _)) (pss_one (ps_ret (pe_un un_neg (pv 4)))) pss_nil)
 (pss_one (ps_ret (pv 4)))))), ?_⟩
    refine Z.w_start (σ' := [some (.ref q), some (.ref N), some (.ref R), none, none, none, none, none]) rfl ?_
    repeat' (first | with_reducible refine seqIf (fun σ' H2 => ∃ x3 n x5 x6 x7, σ' = [some (.ref q), some (.ref N), some (.ref R), x3, some (.int n), x5, x6, x7] ∧ PX q H H2 ∧ 1 ≤ n ∧ n < 2000000) (fun Rk kk => ?_) ?_ | walk_at "w1")
    · rename_i r1 H1 px1 r10 r11
      have hN1 := px1.sx _ _ nNq hN
      have hS1 : SqL K H1 N (ns.map V.int) := .inl (.inl hN1)
      have hR1 := px1.sx _ _ nRq hR
      have pl1 := px1.pl
      walk_at "w"
      walk_at "wi"
      · walk_at "w"
        refine use_stranger pl1 hN1 nNq hg fun z H2 px2 _ z1 z2 => ?_
        walk_at "w"
        exact kk _ _ ⟨_, _, _, _, _, rfl, px1.trans px2, z1, z2⟩
      · walk_at "w"
        walk_at "wi"
        · walk_at "w"
          refine use_stranger pl1 hN1 nNq hg fun z H2 px2 _ z1 z2 => ?_
          walk_at "w"
          exact kk _ _ ⟨_, _, _, _, _, rfl, px1.trans px2, z1, z2⟩
        · walk_at "w"
          rename_i r2 H2 px2 r20 r21
          have hN2 := px2.sx _ _ nNq hN1
          have hS2 : SqL K H2 N (ns.map V.int) := .inl (.inl hN2)
          have hR2 := px2.sx _ _ nRq hR1
          have px12 := px1.trans px2
          obtain ⟨z, za, zm⟩ := pick (ns := ns) r20 (by omega)
          have hz := hg.2.1 z zm
          walk_at "w"
          refine ⟨by omega, by omega, ?_⟩
          refine for_range (fun k σ H' => ∃ n x6 x7, σ = [some (.ref q), some (.ref N), some (.ref R), some (.int r1), some (.int n), some (.int r2), x6, x7] ∧ H' = H2 ∧ 1 ≤ n ∧ n < 2000000) ?_ ?_ ?_
          · exact ⟨z, none, none, rfl, rfl, by omega, by omega⟩
          · rintro k σ H' hk ⟨n, x6, x7, rfl, rfl, n1, n2⟩
            have hpos : (0 : Int) < ((ns.map V.int).length : Int) := by omega
            have m0 := Int.emod_nonneg (r2 + (0 + (k : Int))) (show ((ns.map V.int).length : Int) ≠ 0 by omega)
            have m1 := Int.emod_lt_of_pos (r2 + (0 + (k : Int))) hpos
            obtain ⟨z3, za3, zm3⟩ := pick (ns := ns) m0 (by omega)
            have hz3 := hg.2.1 z3 zm3
            have hv2 := hv.tup (TupS.ofM px12.mo)
            walk_at "w"
            walk_at "wi"
            · walk_at "w"
              refine use_place hR2 hv2 hl ?_
              obtain ⟨zz, ez⟩ := pV_int (pos rs z3)
              rw [ez]
              walk_at "w"
              walk_at "wi"
              · walk_at "w"
                exact kk _ _ ⟨_, _, _, _, _, rfl, px12, by omega, by omega⟩
              · walk_at "w"
                exact ⟨_, _, _, rfl, rfl, n1, n2⟩
            · walk_at "w"
              exact ⟨_, _, _, rfl, rfl, n1, n2⟩
          · rintro σ H' ⟨n, x6, x7, rfl, rfl, n1, n2⟩
            exact kk _ _ ⟨_, _, _, _, _, rfl, px12, n1, n2⟩
    · rintro σ' H2 ⟨x3, n, x5, x6, x7, rfl, px, n1, n2⟩
      have pl2 := px.pl
      walk_at "w"
      rename_i r3 H3 px3 r30 r31
      have px23 := px.trans px3
      walk_at "wi"
      · walk_at "w"
        exact h _ _ px23 (by omega) (by omega)
      · walk_at "w"
        exact h _ _ px23 (by omega) (by omega)
end
end L

namespace L
open PySem PySem.Spec PyProof.Rows L2 Z M MR MT X2
open _root_.SX (S S_len S_cat S_inj)
section
variable {P : Program} {w : World} {K : PySem.W.Frag} {mg : Str → Option Value} {base : Heap}
/-- what a door refuses -/
def RefD (ns : List Int) (rs : List TRow) (d i : Int) : Prop := 0 ≤ d ∧ d ≤ 5 ∧ (d ≤ 3 → (i.natAbs : Int) ∉ ns) ∧ (4 ≤ d → ¬ ((i.natAbs : Int) ∈ ns ∧ val rs i = .non))
def spAskR (CT C : Addr) : Sp := fun vs H Q E => ∃ (o : Addr) (t : TrO) (ns : List Int) (rs : List TRow) (d i : Int), vs = [.ref o, .int d, .int i] ∧ TrAt CT H o t ns rs ∧ i.natAbs < 10 ^ 60 ∧ rs.length ≤ 99 ∧ RefD ns rs d i ∧ Refu C i H E
theorem ok_ask (T : Txt K mg) : FnOk P w K mg base (L2N.CX P w) 7 T.f_ask T.fd_ask ["_law_trail", "_law_door", "_law_literal_here"] (spAskR T.C_Trail T.C_BadLiteral) := by
  have G_Trail_value := ok_value (P := P) (w := w) (base := base) T
  have G_Trail_level_of := ok_level (P := P) (w := w) (base := base) T
  have G_Trail_reason_of := ok_reason (P := P) (w := w) (base := base) T
  have G_Trail_place_of := ok_place (P := P) (w := w) (base := base) T
  have G_Trail_choose := ok_choose (P := P) (w := w) (base := base) T
  have G_Trail_force := ok_force (P := P) (w := w) (base := base) T
  refine okN T.F_ask sc_ask (fun vs H Q E h => ?_) (fun cdv A outer s H vs Q E hr h => ?_)
  · obtain ⟨o, t, ns, rs, d, i, rfl, _⟩ := h
    rfl
  · obtain ⟨o, t, ns, rs, d, i, rfl, ht, hi, hl, ⟨d0, d5, hd1, hd2⟩, h⟩ := h
    obtain ⟨n, ob⟩ := ht.ob
    refine ⟨_, (pss_cons (ps_if (pt_cmpR op_eq (pv 1) pe_int (nomark _)) (pss_one (ps_ret (pe_meth (pv 0) T.cl_Trail T.M_Trail_value G_Trail_value (hr.mono (by first | decide | omega)) T.b_Trail_value .nil (L2N.passes_call (L2N.takes_of rfl rfl rfl rfl) fun _ _ _ _ h => h) (pa_cons (pv 2) pa_nil)))) pss_nil)
 (pss_cons (ps_if (pt_cmpR op_eq (pv 1) pe_int (nomark _)) (pss_one (ps_ret (pe_meth (pv 0) T.cl_Trail T.M_Trail_level_of G_Trail_level_of (hr.mono (by first | decide | omega)) T.b_Trail_level_of .nil (L2N.passes_call (L2N.takes_of rfl rfl rfl rfl) fun _ _ _ _ h => h) (pa_cons (pv 2) pa_nil)))) pss_nil)
 (pss_cons (ps_if (pt_cmpR op_eq (pv 1) pe_int (nomark _)) (pss_one (ps_ret (pe_meth (pv 0) T.cl_Trail T.M_Trail_reason_of G_Trail_reason_of (hr.mono (by first | decide | omega)) T.b_Trail_reason_of .nil (L2N.passes_call (L2N.takes_of rfl rfl rfl rfl) fun _ _ _ _ h => h) (pa_cons (pv 2) pa_nil)))) pss_nil)
 (pss_cons (ps_if (pt_cmpR op_eq (pv 1) pe_int (nomark _)) (pss_one (ps_ret (pe_meth (pv 0) T.cl_Trail T.M_Trail_place_of G_Trail_place_of (hr.mono (by first | decide | omega)) T.b_Trail_place_of .nil (L2N.passes_call (L2N.takes_of rfl rfl rfl rfl) fun _ _ _ _ h => h) (pa_cons (pv 2) pa_nil)))) pss_nil)
 (pss_cons (ps_if (pt_cmpR op_eq (pv 1) pe_int (nomark _)) (pss_one (ps_ret (pe_meth (pv 0) T.cl_Trail T.M_Trail_choose G_Trail_choose (hr.mono (by first | decide | omega)) T.b_Trail_choose .nil (L2N.passes_call (L2N.takes_of rfl rfl rfl rfl) fun _ _ _ _ h => h) (pa_cons (pv 2) pa_nil)))) pss_nil)
 (pss_one (ps_ret (pe_meth (pv 0) T.cl_Trail T.M_Trail_force G_Trail_force (hr.mono (by first | decide | omega)) T.b_Trail_force .nil (L2N.passes_call (L2N.takes_of rfl rfl rfl rfl) fun _ _ _ _ h => h) (pa_cons (pv 2) (pa_cons pe_int pa_nil)))))))))), ?_⟩
    refine Z.w_start (σ' := [some (.ref o), some (.int d), some (.int i)]) rfl ?_
    have hd : d = 0 ∨ d = 1 ∨ d = 2 ∨ d = 3 ∨ d = 4 ∨ d = 5 := by omega
    rcases hd with rfl | rfl | rfl | rfl | rfl | rfl
    · walk_at "w"
      refine w_meth0 ob rfl (by rfl) ?_
      walk_at "w"
      exact ⟨o, t, ns, rs, i, rfl, ht, hi, by omega, fun hm => absurd hm (hd1 (by decide)), fun _ => h⟩
    · walk_at "w"
      refine w_meth0 ob rfl (by rfl) ?_
      walk_at "w"
      exact ⟨o, t, ns, rs, i, rfl, ht, hi, by omega, fun hm => absurd hm (hd1 (by decide)), fun _ => h⟩
    · walk_at "w"
      refine w_meth0 ob rfl (by rfl) ?_
      walk_at "w"
      exact ⟨o, t, ns, rs, i, rfl, ht, hi, by omega, fun hm => absurd hm (hd1 (by decide)), fun _ => h⟩
    · walk_at "w"
      refine w_meth0 ob rfl (by rfl) ?_
      walk_at "w"
      exact ⟨o, t, ns, rs, i, rfl, ht, hi, by omega, fun hm => absurd hm (hd1 (by decide)), fun _ => h⟩
    · walk_at "w"
      refine w_meth0 ob rfl (by rfl) ?_
      walk_at "w"
      exact ⟨o, t, ns, rs, i, 0, rfl, ht, hi, hl, fun hm => absurd hm (hd2 (by decide)), fun _ => h⟩
    · walk_at "w"
      refine w_meth0 ob rfl (by rfl) ?_
      walk_at "w"
      exact ⟨o, t, ns, rs, i, 3, rfl, ht, hi, hl, fun hm => absurd hm (hd2 (by decide)), fun _ => h⟩
theorem ok_wholeH (T : Txt K mg) : L2H.FnH P w K mg base CX0 1 T.f_whole T.fd_whole ["_law_value"] spWhole := by
  refine okH T.F_whole sc_whole (fun vs H Q E h => ?_) (fun cdv A outer s H vs Q E p hot hr h => ?_)
  · obtain ⟨i, rfl, _⟩ := h
    rfl
  · obtain ⟨i, rfl, hq⟩ := h
    refine ⟨_, (pss_one (ps_ret (pe_and (pe_callB call_isi (by rfl) T.m_isinstance (by decide +kernel) (pa_cons (pv 0) (pa_cons (pe_bltn (v := .ty "int") (by rfl) T.m_int (by decide +kernel) rfl) pa_nil))) (pe_one (pe_not (pe_callB call_isi (by rfl) T.m_isinstance (by decide +kernel) (pa_cons (pv 0) (pa_cons (pe_bltn (v := .ty "bool") (by rfl) T.m_bool (by decide +kernel) rfl) pa_nil)))))))), ?_⟩
    refine Z.w_start (σ' := [some (.int i)]) rfl ?_
    walk_at "w"
    exact hq
def spRefused (CT : Addr) : Sp := fun vs H Q _ => ∃ (o : Addr) (t : TrO) (ns : List Int) (rs : List TRow) (d i : Int), vs = [.ref o, .int d, .int i] ∧ TrAt CT H o t ns rs ∧ i.natAbs < 10 ^ 60 ∧ rs.length ≤ 99 ∧ RefD ns rs d i ∧ ∀ H', Same H H' → Q (.bl true) H'
theorem ok_refused (T : Txt K mg) : FnOk P w K mg base CX0 8 T.f_refused T.fd_refused ["_law_trail", "_law_door", "_law_literal_here"] (spRefused T.C_Trail) := by
  have G_ask := ok_ask (P := P) (w := w) (base := base) T
  have GH_whole := ok_wholeH (P := P) (w := w) (base := base) T
  refine T.F_refused.ok sc_refused (fun vs H Q E h => ?_) (fun cdv A outer s H vs Q E hr h => ?_)
  · obtain ⟨o, t, ns, rs, d, i, rfl, _⟩ := h
    rfl
  · obtain ⟨o, t, ns, rs, d, i, rfl, ht, hi, hl, hd, h⟩ := h
    refine ⟨_, (pss_cons (L2N.ps_try_as (i := 3)  rfl rfl sc_refused.nd rfl rfl ⟨rfl, by decide, .inl T.c_BadLiteral⟩ X2.takesN (fun W pn xe tk _ => (pss_one (ps_expr (pe_callS G_ask (hr.mono (by first | decide | omega)) (by rfl) T.g_ask T.F_ask.kp T.b_ask (fun σ => L2N.passAt tk σ) (by exact (pa_cons (pv 0) (pa_cons (pv 1) (pa_cons (pv 2) pa_nil)))))))) (fun a oe cls d pn hz hf => (pss_cons (ps_if (pt_val (pe_callB (X2.call_isXT hz.zc hf) (by rfl) T.m_isinstance (by decide +kernel) (pa_cons (pv 3) (pa_cons (pe_tup (pa_cons (pe_glob (v := .ref T.C_BadModel) (by rfl) T.c_BadModel rfl) (pa_cons (pe_glob (v := .ref T.C_BadName) (by rfl) T.c_BadName rfl) (pa_cons (pe_glob (v := .ref T.C_BadNode) (by rfl) T.c_BadNode rfl) (pa_cons (pe_glob (v := .ref T.C_BadRatio) (by rfl) T.c_BadRatio rfl) (pa_cons (pe_glob (v := .ref T.C_BadSort) (by rfl) T.c_BadSort rfl) pa_nil)))))) pa_nil)))) (pss_one (ps_ret pe_bl)) pss_nil)
 (pss_cons (ps_if (pt_val (pe_callB (X2.call_isXT hz.zc hf) (by rfl) T.m_isinstance (by decide +kernel) (pa_cons (pv 3) (pa_cons (pe_tup (pa_cons (pe_glob (v := .ref T.C_BadText) (by rfl) T.c_BadText rfl) (pa_cons (pe_glob (v := .ref T.C_NameTaken) (by rfl) T.c_NameTaken rfl) (pa_cons (pe_glob (v := .ref T.C_NoAnswer) (by rfl) T.c_NoAnswer rfl) (pa_cons (pe_glob (v := .ref T.C_NoLevel) (by rfl) T.c_NoLevel rfl) (pa_cons (pe_glob (v := .ref T.C_UnknownName) (by rfl) T.c_UnknownName rfl) pa_nil)))))) pa_nil)))) (pss_one (ps_ret pe_bl)) pss_nil)
 (pss_one (ps_ret (pe_and (pe_callB (X2.call_isX1 hz.zc hf) (by rfl) T.m_isinstance (by decide +kernel) (pa_cons (pv 3) (pa_cons (pe_glob (v := .ref T.C_PaperError) (by rfl) T.c_PaperError rfl) pa_nil))) (pe_and (L2H.pe_callH GH_whole (X2.roomM (hr.mono (by first | decide | omega)) _) (X2.hot_of hz hf) (by rfl) T.g_whole T.F_whole.kp T.b_whole X2.passH0 (pa_cons (pe_xf T.xo_BadLiteral.xf T.xo_BadLiteral.no hz.zc hf (pv 3)) pa_nil)) (pe_one (pe_cmpR op_eq (pe_xf T.xo_BadLiteral.xf T.xo_BadLiteral.no hz.zc hf (pv 3)) (pv 2) (nomark _)))))))))))
 (pss_one (ps_ret pe_bl))), ?_⟩
    refine Z.w_start (σ' := [some (.ref o), some (.int d), some (.int i), none]) rfl ?_
    walk_at "w"
    refine ⟨o, t, ns, rs, d, i, rfl, ht, hi, hl, hd, fun dd H' s1 hx => ⟨true, T.e_BadLiteral_BadLiteral, fun _ a ha => ?_, fun q => nomatch q⟩⟩
    refine Z.w_start (σ' := [some (.ref o), some (.int d), some (.int i), some (.ref a)]) rfl ?_
    walk_at "w"
    refine w_isXT T.xo_BadLiteral.xc (by walk_at "hp") (by walk_at "hp") (by repeat constructor) T.i_1 ?_
    walk_at "w"
    refine w_isXT T.xo_BadLiteral.xc (by walk_at "hp") (by walk_at "hp") (by repeat constructor) T.i_2 ?_
    walk_at "w"
    refine w_isX1 T.xo_BadLiteral.xc (by walk_at "hp") (.own _) T.k_BadLiteral_PaperError ?_
    walk_at "w"
    rw [decide_eq_true (rfl : i = i)]
    refine h _ (by walk_at "same")
theorem ok_refusedB (T : Txt K mg) : FnOk P w K mg base CX0 8 T.f_refused_base T.fd_refused_base ["_law_trail", "_law_door", "_law_literal_here"] (spRefused T.C_Trail) := by
  have G_ask := ok_ask (P := P) (w := w) (base := base) T
  have GH_whole := ok_wholeH (P := P) (w := w) (base := base) T
  refine T.F_refused_base.ok sc_refused_base (fun vs H Q E h => ?_) (fun cdv A outer s H vs Q E hr h => ?_)
  · obtain ⟨o, t, ns, rs, d, i, rfl, _⟩ := h
    rfl
  · obtain ⟨o, t, ns, rs, d, i, rfl, ht, hi, hl, hd, h⟩ := h
    refine ⟨_, (pss_cons (L2N.ps_try_as (i := 3)  rfl rfl sc_refused_base.nd rfl rfl ⟨rfl, by decide, .inl T.c_PaperError⟩ X2.takesN (fun W pn xe tk _ => (pss_one (ps_expr (pe_callS G_ask (hr.mono (by first | decide | omega)) (by rfl) T.g_ask T.F_ask.kp T.b_ask (fun σ => L2N.passAt tk σ) (by exact (pa_cons (pv 0) (pa_cons (pv 1) (pa_cons (pv 2) pa_nil)))))))) (fun a oe cls d pn hz hf => (pss_cons (ps_if (PW.pt (pw_or (pt_not (pt_val (pe_callB (X2.call_isX1 hz.zc hf) (by rfl) T.m_isinstance (by decide +kernel) (pa_cons (pv 3) (pa_cons (pe_glob (v := .ref T.C_BadLiteral) (by rfl) T.c_BadLiteral rfl) pa_nil))))) (pw_or1 (pt_not (pt_val (pe_callB (X2.call_isX1 hz.zc hf) (by rfl) T.m_isinstance (by decide +kernel) (pa_cons (pv 3) (pa_cons (pe_bltn (v := .ty "ValueError") (by rfl) T.m_ValueError (by decide +kernel) rfl) pa_nil)))))))) (pss_one (ps_ret pe_bl)) pss_nil)
 (pss_one (ps_ret (pe_and (L2H.pe_callH GH_whole (X2.roomM (hr.mono (by first | decide | omega)) _) (X2.hot_of hz hf) (by rfl) T.g_whole T.F_whole.kp T.b_whole X2.passH0 (pa_cons (pe_xf T.xo_BadLiteral.xf T.xo_BadLiteral.no hz.zc hf (pv 3)) pa_nil)) (pe_one (pe_cmpR op_eq (pe_xf T.xo_BadLiteral.xf T.xo_BadLiteral.no hz.zc hf (pv 3)) (pv 2) (nomark _)))))))))
 (pss_one (ps_ret pe_bl))), ?_⟩
    refine Z.w_start (σ' := [some (.ref o), some (.int d), some (.int i), none]) rfl ?_
    walk_at "w"
    refine ⟨o, t, ns, rs, d, i, rfl, ht, hi, hl, hd, fun dd H' s1 hx => ⟨true, T.e_BadLiteral_PaperError, fun _ a ha => ?_, fun q => nomatch q⟩⟩
    refine Z.w_start (σ' := [some (.ref o), some (.int d), some (.int i), some (.ref a)]) rfl ?_
    walk_at "w"
    refine w_isX1 T.xo_BadLiteral.xc (by walk_at "hp") (.own _) T.k_BadLiteral_BadLiteral ?_
    walk_at "w"
    refine w_isX1 T.xo_BadLiteral.xc (by walk_at "hp") (.ty _) T.k_BadLiteral_ValueError ?_
    walk_at "w"
    rw [decide_eq_true (rfl : i = i)]
    refine h _ (by walk_at "same")
def spRefuses (CT : Addr) : Sp := fun vs H Q _ => ∃ (o : Addr) (t : TrO) (ns : List Int) (rs : List TRow) (d i b : Int), vs = [.ref o, .int d, .int i, .int b] ∧ TrAt CT H o t ns rs ∧ i.natAbs < 10 ^ 60 ∧ rs.length ≤ 99 ∧ RefD ns rs d i ∧ ∀ H', Same H H' → Q (.bl true) H'
theorem use_refuses {C o : Addr} {t : TrO} {ns : List Int} {rs : List TRow} {d i b : Int} {H : Hp} {Q : VK} {E : XK} (h1 : TrAt C H o t ns rs) (h2 : i.natAbs < 10 ^ 60) (h3 : rs.length ≤ 99) (h4 : RefD ns rs d i) (q : ∀ H', Same H H' → Q (.bl true) H') : spRefuses C [.ref o, .int d, .int i, .int b] H Q E := ⟨o, t, ns, rs, d, i, b, rfl, h1, h2, h3, h4, q⟩
theorem ok_refuses (T : Txt K mg) : FnOk P w K mg base CX0 9 T.f_refuses T.fd_refuses ["_law_trail", "_law_door", "_law_literal_here", "_law_base"] (spRefuses T.C_Trail) := by
  have G_refused := ok_refused (P := P) (w := w) (base := base) T
  have G_refused_base := ok_refusedB (P := P) (w := w) (base := base) T
  refine T.F_refuses.ok sc_refuses (fun vs H Q E h => ?_) (fun cdv A outer s H vs Q E hr h => ?_)
  · obtain ⟨o, t, ns, rs, d, i, b, rfl, _⟩ := h
    rfl
  · obtain ⟨o, t, ns, rs, d, i, b, rfl, ht, hi, hl, hd, h⟩ := h
    refine ⟨_, (pss_cons (ps_if (pt_cmpR op_eq (pv 3) pe_int (nomark _)) (pss_one (ps_ret (pe_call G_refused_base (hr.mono (by first | decide | omega)) (by rfl) T.g_refused_base T.F_refused_base.kp T.b_refused_base .nil pass0 (pa_cons (pv 0) (pa_cons (pv 1) (pa_cons (pv 2) pa_nil)))))) pss_nil)
 (pss_one (ps_ret (pe_call G_refused (hr.mono (by first | decide | omega)) (by rfl) T.g_refused T.F_refused.kp T.b_refused .nil pass0 (pa_cons (pv 0) (pa_cons (pv 1) (pa_cons (pv 2) pa_nil))))))), ?_⟩
    refine Z.w_start (σ' := [some (.ref o), some (.int d), some (.int i), some (.int b)]) rfl ?_
    walk_at "w"
    walk_at "wi"
    · walk_at "w"
      exact ⟨o, t, ns, rs, d, i, rfl, ht, hi, hl, hd, h⟩
    · walk_at "w"
      exact ⟨o, t, ns, rs, d, i, rfl, ht, hi, hl, hd, h⟩
end
end L

namespace L
open PySem PySem.Spec PyProof.Rows L2 Z M MR MT X2
open _root_.SX (S S_len S_cat S_inj)
theorem atP_none {f : List TRow → List V} {rs : List TRow} {i : Int} (h : plc rs i = none) : atP f rs i = .non := by
  unfold atP
  rw [h]
theorem atP_some {f : List TRow → List V} {rs : List TRow} {i : Int} {k : Nat} {v : V} (h : plc rs i = some k) (hv : (f rs)[k]? = some v) : atP f rs i = v := by
  unfold atP
  rw [h]
  show (f rs).getD k .non = v
  rw [List.getD_eq_getElem?_getD, hv]
  rfl
theorem levs_get {rs : List TRow} {k : Nat} (h : k < rs.length) : (nV (levs rs))[k]? = some (.int (lev rs k : Int)) := by
  unfold nV levs
  rw [List.getElem?_map, List.getElem?_map, List.getElem?_range h]
  rfl
theorem flv_rV (r : Option Int) : FlV (rV r) := by
  cases r with
  | none => exact .inl rfl
  | some i => exact .inr (.inr ⟨i, rfl⟩)
structure SeatAt (C : Addr) (H : Hp) (Sa : Addr) (o : Addr) (t : TrO) (N R : Addr) (x : Int) (ns : List Int) (us : List V) (rs : List TRow) : Prop where
  tr : TrAt C H o t ns rs
  st : H Sa = some (.lst [.ref o, .ref N, .ref R, .int x])
  nd : H N = some (.lst (ns.map V.int))
  rw : H R = some (.lst us)
  rv : RowsV H us rs
  gn : GoodN ns
  tw : NoTwin rs
  mem : ∀ r ∈ rs, (r.1.natAbs : Int) ∈ ns
  xo : x ∉ ns ∧ 1 ≤ x ∧ x < 2000000
theorem rows_len {rs : List TRow} {ns : List Int} (hn : NoTwin rs) (hm : ∀ r ∈ rs, (r.1.natAbs : Int) ∈ ns) (hg : GoodN ns) : rs.length ≤ 30 := by
  have h1 : (rs.map fun r => (r.1.natAbs : Int)).Nodup := by
    have : (rs.map fun r => (r.1.natAbs : Int)) = (rs.map fun r => r.1.natAbs).map (fun n : Nat => (n : Int)) := by rw [List.map_map]; rfl
    rw [this]
    exact List.Pairwise.map _ (fun a b h z => h (Int.ofNat.inj z)) hn
  have h2 : (rs.map fun r => (r.1.natAbs : Int)) ⊆ ns := fun y hy => by
    obtain ⟨r, hr, rfl⟩ := List.mem_map.mp hy
    exact hm r hr
  have := List.Nodup.length_le_of_subset h1 h2
  rw [List.length_map] at this
  exact Nat.le_trans this hg.2.2
section
variable {P : Program} {w : World} {K : PySem.W.Frag} {mg : Str → Option Value} {base : Heap}
theorem w_inOwn {C : Addr} {o dx : Addr} {fs : List (Str × V)} {i : Int} {sp : Sp} {H : Hp} {Q : VK} {neg : Bool} (h1 : H o = some (.ins C dx fs)) (h : sp [.ref o, .int i] H (fun v H' => ∃ b : Bool, v = .bl b ∧ Q (.bl (if neg then !b else b)) H') E0) : OWN.rInOwn C sp neg (.int i) (.ref o) H Q := ⟨o, dx, fs, rfl, h1, h⟩
def spTold1 (CT : Addr) : Sp := fun vs H Q _ => ∃ (o : Addr) (t : TrO) (ns : List Int) (R : Addr) (us : List V) (rs : List TRow) (i : Int), vs = [.ref o, .ref R, .int i] ∧ TrAt CT H o t ns rs ∧ H R = some (.lst us) ∧ RowsV H us rs ∧ NoTwin rs ∧ (i.natAbs : Int) ∈ ns ∧ i.natAbs < 10 ^ 60 ∧ rs.length ≤ 100 ∧ Q (.bl true) H
theorem ok_told1 (T : Txt K mg) : FnOk P w K mg base CX0 8 T.f_literal_told T.fd_literal_told ["_law_trail", "_law_rows", "_law_literal_here"] (spTold1 T.C_Trail) := by
  have G_place := ok_Lplace (P := P) (w := w) (base := base) T
  have G_alike := ok_alike (P := P) (w := w) (base := base) T
  have G_Trail_value := ok_value (P := P) (w := w) (base := base) T
  have G_Trail_level_of := ok_level (P := P) (w := w) (base := base) T
  have G_Trail_reason_of := ok_reason (P := P) (w := w) (base := base) T
  have G_Trail_place_of := ok_place (P := P) (w := w) (base := base) T
  have G_Trail_contains := ok_has (P := P) (w := w) (base := base) T
  refine T.F_literal_told.ok sc_literal_told (fun vs H Q E h => ?_) (fun cdv A outer s H vs Q E hr h => ?_)
  · obtain ⟨o, t, ns, R, us, rs, i, rfl, _⟩ := h
    rfl
  · obtain ⟨o, t, ns, R, us, rs, i, rfl, ht, hR, hv, hw, hm, hi, hl, h⟩ := h
    obtain ⟨n, ob⟩ := ht.ob
    have hul := hv.1
    refine ⟨_, (pss_cons (ps_set (i := 3) sc_literal_told.nd rfl (.inl rfl) (pe_call G_place (hr.mono (by first | decide | omega)) (by rfl) T.g_place T.F_place.kp T.b_place .nil pass0 (pa_cons (pv 1) (pa_cons (pv 2) pa_nil))))
 (pss_cons (ps_if (pt_cmpR op_lt (pv 3) pe_int (nomark _)) (pss_cons (ps_if (PW.pt (pw_or (pt_cmpR op_notN (pe_meth (pv 0) T.cl_Trail T.M_Trail_value G_Trail_value (hr.mono (by first | decide | omega)) T.b_Trail_value .nil X2.passN (pa_cons (pv 2) pa_nil)) pe_non (nomark _)) (pw_or1 (pt_cmpR op_notN (pe_meth (pv 0) T.cl_Trail T.M_Trail_level_of G_Trail_level_of (hr.mono (by first | decide | omega)) T.b_Trail_level_of .nil X2.passN (pa_cons (pv 2) pa_nil)) pe_non (nomark _))))) (pss_one (ps_ret pe_bl)) pss_nil)
 (pss_one (ps_ret (pe_and (pe_cmpR op_isN (pe_meth (pv 0) T.cl_Trail T.M_Trail_reason_of G_Trail_reason_of (hr.mono (by first | decide | omega)) T.b_Trail_reason_of .nil X2.passN (pa_cons (pv 2) pa_nil)) pe_non (nomark _)) (pe_and (pe_cmpR op_isN (pe_meth (pv 0) T.cl_Trail T.M_Trail_place_of G_Trail_place_of (hr.mono (by first | decide | omega)) T.b_Trail_place_of .nil X2.passN (pa_cons (pv 2) pa_nil)) pe_non (nomark _)) (pe_one (pe_cmpR (OWN.op_ninOwn T.in_Trail G_Trail_contains T.b_Trail_contains (hr.mono (by first | decide | omega))) (pv 2) (pv 0) rfl))))))) pss_nil)
 (pss_cons (ps_set (i := 4) sc_literal_told.nd rfl (.inl rfl) (pe_ix ix_list (pv 1) (pv 3) (fun _ _ => rfl)))
 (pss_cons (ps_if (PW.pt (pw_or (pt_not (pt_val (pe_call G_alike (hr.mono (by first | decide | omega)) (by rfl) T.g_alike T.F_alike.kp T.b_alike .nil pass0 (pa_cons (pe_meth (pv 0) T.cl_Trail T.M_Trail_value G_Trail_value (hr.mono (by first | decide | omega)) T.b_Trail_value .nil X2.passN (pa_cons (pv 2) pa_nil)) (pa_cons (pe_cmpR op_eq (pe_ix ix_tup (pv 4) pe_int (fun _ _ => rfl)) (pv 2) (nomark _)) pa_nil))))) (pw_or1 (pt_not (pt_val (pe_call G_alike (hr.mono (by first | decide | omega)) (by rfl) T.g_alike T.F_alike.kp T.b_alike .nil pass0 (pa_cons (pe_meth (pv 0) T.cl_Trail T.M_Trail_level_of G_Trail_level_of (hr.mono (by first | decide | omega)) T.b_Trail_level_of .nil X2.passN (pa_cons (pv 2) pa_nil)) (pa_cons (pe_ix ix_tup (pv 4) pe_int (fun _ _ => rfl)) pa_nil)))))))) (pss_one (ps_ret pe_bl)) pss_nil)
 (pss_cons (ps_if (PW.pt (pw_or (pt_not (pt_val (pe_call G_alike (hr.mono (by first | decide | omega)) (by rfl) T.g_alike T.F_alike.kp T.b_alike .nil pass0 (pa_cons (pe_meth (pv 0) T.cl_Trail T.M_Trail_reason_of G_Trail_reason_of (hr.mono (by first | decide | omega)) T.b_Trail_reason_of .nil X2.passN (pa_cons (pv 2) pa_nil)) (pa_cons (pe_ix ix_tup (pv 4) pe_int (fun _ _ => rfl)) pa_nil))))) (pw_or1 (pt_not (pt_val (pe_call G_alike (hr.mono (by first | decide | omega)) (by rfl) T.g_alike T.F_alike.kp T.b_alike .nil pass0 (pa_cons (pe_meth (pv 0) T.cl_Trail T.M_Trail_place_of G_Trail_place_of (hr.mono (by first | decide | omega)) T.b_Trail_place_of .nil X2.passN (pa_cons (pv 2) pa_nil)) (pa_cons (pv 3) pa_nil)))))))) (pss_one (ps_ret pe_bl)) pss_nil)
 (pss_one (ps_ret (pe_cmpR op_eq (pe_cmpR (OWN.op_inOwn T.in_Trail G_Trail_contains T.b_Trail_contains (hr.mono (by first | decide | omega))) (pv 2) (pv 0) rfl) (pe_cmpR op_eq (pe_ix ix_tup (pv 4) pe_int (fun _ _ => rfl)) (pv 2) (nomark _)) (nomark _))))))))), ?_⟩
    refine Z.w_start (σ' := [some (.ref o), some (.ref R), some (.int i), none, none]) rfl ?_
    walk_at "w"
    refine use_place hR hv hl ?_
    cases e : pos rs i with
    | none =>
      obtain ⟨e1, e2, e3, e4⟩ := told_no e
      dsimp only [pV]
      walk_at "w"
      refine w_meth0 ob rfl (by rfl) ?_
      walk_at "w"
      refine ⟨o, t, ns, rs, i, rfl, ht, hi, hl, fun _ => ?_, fun z => absurd hm z⟩
      rw [e2]
      walk_at "w"
      refine w_meth0 ob rfl (by rfl) ?_
      walk_at "w"
      refine ⟨o, t, ns, rs, i, rfl, ht, hi, hl, fun _ => ?_, fun z => absurd hm z⟩
      rw [atP_none e1]
      walk_at "w"
      refine w_meth0 ob rfl (by rfl) ?_
      walk_at "w"
      refine ⟨o, t, ns, rs, i, rfl, ht, hi, hl, fun _ => ?_, fun z => absurd hm z⟩
      rw [atP_none e1]
      walk_at "w"
      refine w_meth0 ob rfl (by rfl) ?_
      walk_at "w"
      refine ⟨o, t, ns, rs, i, rfl, ht, hi, hl, fun _ => ?_, fun z => absurd hm z⟩
      have ep : (fun rs i => oV (plc rs i)) rs i = V.non := by
        show oV (plc rs i) = _
        rw [e1]
        rfl
      rw [ep]
      walk_at "w"
      refine w_inOwn ob ⟨o, t, ns, rs, i, rfl, ht, ?_⟩
      rw [decide_eq_false e3]
      walk_at "w"
      exact h
    | some k =>
      obtain ⟨r, hr2, hr3, _⟩ := pos_some e
      obtain ⟨e1, e2, e3⟩ := told_at hw e hr2
      obtain ⟨p, h1, h2⟩ := hv.2 k _ hr2
      have hk := (List.getElem?_eq_some_iff.mp hr2).1
      have hat : atI us (k : Int) = some (.ref p) := atI_nat h1
      dsimp only [pV]
      walk_at "w"
      refine w_meth0 ob rfl (by rfl) ?_
      walk_at "w"
      refine ⟨o, t, ns, rs, i, rfl, ht, hi, hl, fun _ => ?_, fun z => absurd hm z⟩
      rw [e2]
      walk_at "w"
      refine use_alike (.inr (.inl ⟨_, rfl⟩)) ?_
      walk_at "w"
      refine w_meth0 ob rfl (by rfl) ?_
      walk_at "w"
      refine ⟨o, t, ns, rs, i, rfl, ht, hi, hl, fun _ => ?_, fun z => absurd hm z⟩
      rw [atP_some e1 (levs_get hk)]
      walk_at "w"
      refine use_alike (.inr (.inr ⟨_, rfl⟩)) ?_
      walk_at "w"
      refine w_meth0 ob rfl (by rfl) ?_
      walk_at "w"
      refine ⟨o, t, ns, rs, i, rfl, ht, hi, hl, fun _ => ?_, fun z => absurd hm z⟩
      rw [atP_some (v := rV r.2) e1 (by rw [List.getElem?_map, hr2]; rfl)]
      walk_at "w"
      refine use_alike (flv_rV _) ?_
      walk_at "w"
      refine w_meth0 ob rfl (by rfl) ?_
      walk_at "w"
      refine ⟨o, t, ns, rs, i, rfl, ht, hi, hl, fun _ => ?_, fun z => absurd hm z⟩
      have ep : (fun rs i => oV (plc rs i)) rs i = V.int (k : Int) := by
        show oV (plc rs i) = _
        rw [e1]
        rfl
      rw [ep]
      walk_at "w"
      refine use_alike (.inr (.inr ⟨_, rfl⟩)) ?_
      walk_at "w"
      refine w_inOwn ob ⟨o, t, ns, rs, i, rfl, ht, ?_⟩
      rw [e3]
      walk_at "w"
      refine Z.w_rEq rfl ?_
      have ee : decide (V.bl (if false = true then !decide (r.1 = i) else decide (r.1 = i)) = V.bl (decide (r.1 = i))) = true := decide_eq_true rfl
      rw [ee]
      exact h
theorem use_told1 {C o R : Addr} {t : TrO} {ns : List Int} {us : List V} {rs : List TRow} {i : Int} {H : Hp} {Q : VK} {E : XK} (h1 : TrAt C H o t ns rs) (h2 : H R = some (.lst us)) (h3 : RowsV H us rs) (h4 : NoTwin rs) (h5 : (i.natAbs : Int) ∈ ns) (h6 : i.natAbs < 10 ^ 60) (h7 : rs.length ≤ 100) (q : Q (.bl true) H) : spTold1 C [.ref o, .ref R, .int i] H Q E := ⟨o, t, ns, R, us, rs, i, rfl, h1, h2, h3, h4, h5, h6, h7, q⟩
theorem dep_take_succ {rs : List TRow} {j : Nat} {r : TRow} (h : rs[j]? = some r) : dep (rs.take (j + 1)) = dep (rs.take j) + if r.2.isNone then 1 else 0 := by
  rw [List.take_add_one, h]
  exact dep_snoc _ _
theorem rV_non (r : Option Int) : decide (rV r = V.non) = r.isNone := by
  cases r with
  | none => rfl
  | some i => exact decide_eq_false fun e => by cases e
theorem TrAt.same {C o : Addr} {t : TrO} {ns : List Int} {rs : List TRow} {H H' : Hp} (h : TrAt C H o t ns rs) (s : Same H H') : TrAt C H' o t ns rs := by
  obtain ⟨⟨n, a⟩, ⟨kn, b, b2⟩, c, d, e, f, g, ⟨ts, i, i2⟩, j⟩ := h
  exact ⟨⟨n, s _ _ a⟩, ⟨kn, s _ _ b, b2⟩, s _ _ c, s _ _ d, s _ _ e, s _ _ f, s _ _ g, ⟨ts, s _ _ i, i2⟩, j⟩
theorem SeatAt.same {C Sa o N R : Addr} {t : TrO} {x : Int} {ns : List Int} {us : List V} {rs : List TRow} {H H' : Hp} (h : SeatAt C H Sa o t N R x ns us rs) (s : Same H H') : SeatAt C H' Sa o t N R x ns us rs :=
  ⟨h.tr.same s, s _ _ h.st, s _ _ h.nd, s _ _ h.rw, h.rv.tup (TupS.of s), h.gn, h.tw, h.mem, h.xo⟩
/-- how often a level stands -/
theorem count_levels (rs : List TRow) (k : Nat) : V.int ((((levs rs).map fun n : Nat => (n : Int)).count (k : Int) : Nat) : Int) = V.int ((ed rs (k + 1) : Int) - (ed rs k : Int)) := by
  have h1 : ((levs rs).map fun n : Nat => (n : Int)).count (k : Int) = (levs rs).count k := by
    induction levs rs with
    | nil => rfl
    | cons y ys ih =>
      rw [List.map_cons, List.count_cons, List.count_cons, ih]
      congr 1
      by_cases e : y = k
      · subst e
        simp
      · have : ¬ (y : Int) = (k : Int) := fun z => e (Int.ofNat.inj z)
        simp [e, this]
  rw [h1, count_lev]
  have := ed_mono rs k
  congr 1
  omega
def spTold (CT : Addr) : Sp := fun vs H Q _ => ∃ (Sa o N R : Addr) (t : TrO) (x : Int) (ns : List Int) (us : List V) (rs : List TRow), vs = [.ref Sa] ∧ SeatAt CT H Sa o t N R x ns us rs ∧ ∀ H', Same H H' → Q (.bl true) H'
theorem ok_told (T : Txt K mg) : FnOk P w K mg base CX0 9 T.f_told T.fd_told ["_law_seat"] (spTold T.C_Trail) := by
  have G_list := ok_list (P := P) (w := w) (base := base) T
  have G_alike := ok_alike (P := P) (w := w) (base := base) T
  have G_literal_told := ok_told1 (P := P) (w := w) (base := base) T
  have G_Trail_literals := ok_literals (P := P) (w := w) (base := base) T
  have G_Trail_sizes := ok_sizes (P := P) (w := w) (base := base) T
  have G_Trail_depth := ok_depth (P := P) (w := w) (base := base) T
  refine T.F_told.ok sc_told (fun vs H Q E h => ?_) (fun cdv A outer s H vs Q E hr h => ?_)
  · obtain ⟨Sa, o, N, R, t, x, ns, us, rs, rfl, _⟩ := h
    rfl
  · obtain ⟨Sa, o, N, R, t, x, ns, us, rs, rfl, hs, h⟩ := h
    have hrl := rows_len hs.tw hs.mem hs.gn
    have hul := hs.rv.1
    have hst := hs.st
    have hrw := hs.rw
    refine ⟨_, (pss_cons (ps_set (i := 1) sc_told.nd rfl (.inl rfl) (pe_ix ix_list (pv 0) pe_int (fun _ _ => rfl)))
 (pss_cons (ps_set (i := 2) sc_told.nd rfl (.inl rfl) (pe_ix ix_list (pv 0) pe_int (fun _ _ => rfl)))
 (pss_cons (ps_set (i := 3) sc_told.nd rfl (.inl rfl) (pe_callB call_len_seq (by rfl) T.m_len (by decide +kernel) (pa_cons (pe_lc (own := [("_law_row", 4)]) (g := gName 4) (by rfl) sc_told.nd (pi_list (pv 2)) (blkOk_by (own := [("_law_row", 4)]) (N := N_told) (sc := defScope s_told) (by decide +kernel)) (fun _ _ _ _ _ => pg_name (i := 4) sc_told.nd rfl (Or.inl rfl)) (fun _ _ _ _ _ => pts_one (pt_cmpR op_isN (pe_ix (show IxR _ (rIxT K) from ix_tup) (pv 4) pe_int (fun _ _ => rfl)) pe_non (nomark _))) (fun _ _ _ _ _ => (pv 4))) pa_nil)))
 (pss_cons (ps_set (i := 5) sc_told.nd rfl (.inr rfl) (pe_lc (own := [("_law_row", 4)]) (g := gName 4) (tt := tYes) (by rfl) sc_told.nd (pi_list (pv 2)) (blkOk_by (own := [("_law_row", 4)]) (N := N_told) (sc := defScope s_told) (by decide +kernel)) (fun _ _ _ _ _ => pg_name (i := 4) sc_told.nd rfl (Or.inl rfl)) (fun _ _ _ _ _ => pts_nil) (fun _ _ _ _ _ => (pe_ix (show IxR _ (rIxT K) from ix_tup) (pv 4) pe_int (fun _ _ => rfl)))))
 (pss_cons (ps_setLc (i := 6) (own := [("_law_level", 7)]) (g := gName 7) (tt := tYes) (by rfl) sc_told.nd rfl rfl (sw_true rfl rfl rfl (by decide +kernel)) (pi_range1 (by rfl) T.m_range (pa_cons (pe_op op_add (pv 3) pe_int) pa_nil)) (blkOk_by (own := [("_law_level", 7)]) (N := N_told) (sc := defScope s_told) (by decide +kernel)) (fun _ _ _ _ _ => pg_name (i := 7) sc_told.nd rfl (Or.inl rfl)) (fun _ _ _ _ _ => pts_nil) (fun _ _ _ _ _ => (show PE _ _ (tBM K "list" (rCntI K) _ _) from (pe_bm PySem.F.plainAttrs_list PySem.F.slot_list_count PySem.F.type_list_count mt_lcount (pv 5) (pa_cons (pv 7) pa_nil)))))
 (pss_cons (ps_for PassesOwn.never rfl (pi_range1 (by rfl) T.m_range (pa_cons pe_int pa_nil)) (pg_name (i := 8) sc_told.nd rfl (.inl rfl)) (pss_cons (ps_set (i := 9) sc_told.nd rfl (.inl rfl) (pe_meth0 (pv 1) T.cl_Trail T.M_Trail_literals G_Trail_literals (hr.mono (by first | decide | omega)) T.b_Trail_literals .nil pass0))
 (pss_cons (ps_set (i := 10) sc_told.nd rfl (.inl rfl) (pe_meth0 (pv 1) T.cl_Trail T.M_Trail_sizes G_Trail_sizes (hr.mono (by first | decide | omega)) T.b_Trail_sizes .nil pass0))
 (pss_cons (ps_if (PW.pt (pw_or (pt_not (pt_val (pe_call G_list (hr.mono (by first | decide | omega)) (by rfl) T.g_list T.F_list.kp T.b_list .nil pass0 (pa_cons (pv 9) (pa_cons (pe_lc (own := [("_law_row", 4)]) (g := gName 4) (tt := tYes) (by rfl) sc_told.nd (pi_list (pv 2)) (blkOk_by (own := [("_law_row", 4)]) (N := N_told) (sc := defScope s_told) (by decide +kernel)) (fun _ _ _ _ _ => pg_name (i := 4) sc_told.nd rfl (Or.inl rfl)) (fun _ _ _ _ _ => pts_nil) (fun _ _ _ _ _ => (pe_ix (show IxR _ (rIxT K) from ix_tup) (pv 4) pe_int (fun _ _ => rfl)))) pa_nil))))) (pw_or1 (pt_not (pt_val (pe_call G_list (hr.mono (by first | decide | omega)) (by rfl) T.g_list T.F_list.kp T.b_list .nil pass0 (pa_cons (pv 10) (pa_cons (pv 6) pa_nil)))))))) (pss_one (ps_ret pe_bl)) pss_nil)
 (pss_cons (ps_if (pt_not (pt_val (pe_call G_alike (hr.mono (by first | decide | omega)) (by rfl) T.g_alike T.F_alike.kp T.b_alike .nil pass0 (pa_cons (pe_meth0 (pv 1) T.cl_Trail T.M_Trail_depth G_Trail_depth (hr.mono (by first | decide | omega)) T.b_Trail_depth .nil pass0) (pa_cons (pv 3) pa_nil))))) (pss_one (ps_ret pe_bl)) pss_nil)
 (pss_cons (ps_expr (pe_bm PySem.F.plainAttrs_list PySem.F.slot_list_append PySem.F.type_list_append mt_append (pv 9) (pa_cons (pv 8) pa_nil)))
 (pss_one (ps_expr (pe_bm PySem.F.plainAttrs_list PySem.F.slot_list_insert PySem.F.type_list_insert mt_insert (pv 10) (pa_cons pe_int (pa_cons pe_int pa_nil)))))))))))
 (pss_cons (ps_for PassesOwn.never rfl (pi_list (pe_ix ix_list (pv 0) pe_int (fun _ _ => rfl))) (pg_name (i := 11) sc_told.nd rfl (.inl rfl)) (pss_one (ps_if (PW.pt (pw_or (pt_not (pt_val (pe_call G_literal_told (hr.mono (by first | decide | omega)) (by rfl) T.g_literal_told T.F_literal_told.kp T.b_literal_told .nil pass0 (pa_cons (pv 1) (pa_cons (pv 2) (pa_cons (pv 11) pa_nil)))))) (pw_or1 (pt_not (pt_val (pe_call G_literal_told (hr.mono (by first | decide | omega)) (by rfl) T.g_literal_told T.F_literal_told.kp T.b_literal_told .nil pass0 (pa_cons (pv 1) (pa_cons (pv 2) (pa_cons (pe_un un_neg (pv 11)) pa_nil))))))))) (pss_one (ps_ret pe_bl)) pss_nil)))
 (pss_one (ps_ret pe_bl))))))))), ?_⟩
    refine Z.w_start (σ' := [some (.ref Sa), none, none, none, none, none, none, none, none, none, none, none]) rfl ?_
    walk_at "w"
    intro D hD
    refine lc_list (K := K) (xs := us) (fun j H6 => Same H H6 ∧ ∃ acc, H6 D = some (.lst acc) ∧ acc.length = dep (rs.take j)) ?_ ?_ ?_ ?_
    · exact ⟨same_of (Same.refl _) hD, [], upd_same, rfl⟩
    · rintro j H6 hj ⟨s6, _⟩
      exact .inl (.inl (s6 _ _ hrw))
    · rintro j v H6 hx ⟨s6, acc, e6, el⟩
      have hj : j < rs.length := by rw [← hul]; exact (List.getElem?_eq_some_iff.mp hx).1
      have hr2 : rs[j]? = some rs[j] := List.getElem?_eq_getElem hj
      obtain ⟨p, h1, h2⟩ := hs.rv.2 j _ hr2
      rw [hx] at h1
      obtain rfl := Option.some.inj h1
      have h2' := s6 _ _ h2
      have hd := dep_take_succ hr2
      refine Z.w_gname (σ' := [some (.ref Sa), some (.ref o), some (.ref R), none, some (.ref p), none, none, none, none, none, none, none]) rfl ⟨rfl, ?_⟩
      walk_at "w"
      rw [rV_non]
      cases hn : rs[j].2.isNone with
      | true =>
        rw [hn, if_pos rfl] at hd
        walk_at "w"
        refine ⟨acc, e6, ?_, same_mut s6 hD, acc ++ [.ref p], upd_same, by rw [List.length_append, el, hd]; rfl⟩
        rw [el]
        exact Nat.lt_of_le_of_lt (Nat.le_trans (dep_take_le _ _) (Nat.le_trans List.countP_le_length hrl)) (by decide)
      | false =>
        rw [hn, if_neg (by decide)] at hd
        walk_at "w"
        exact ⟨s6, acc, e6, by rw [el, hd]; rfl⟩
    · rintro H6 ⟨s6, acc, e6, el⟩
      rw [hul, List.take_length] at el
      have hdl : dep rs ≤ 30 := Nat.le_trans List.countP_le_length hrl
      have hrw6 := s6 _ _ hrw
      walk_at "w"
      intro D2 hD2
      refine lc_list (K := K) (xs := us) (fun j H7 => Same H6 H7 ∧ j ≤ us.length ∧ H7 D2 = some (.lst ((nV (levs rs)).take j))) ?_ ?_ ?_ ?_
      · exact ⟨same_of (Same.refl _) hD2, Nat.zero_le _, upd_same⟩
      · rintro j H7 hj ⟨s7, _⟩
        exact .inl (.inl (s7 _ _ hrw6))
      · rintro j v H7 hx ⟨s7, _, e7⟩
        have hju := (List.getElem?_eq_some_iff.mp hx).1
        have hj : j < rs.length := by rw [← hul]; exact hju
        obtain ⟨p, h1, h2⟩ := hs.rv.2 j _ (List.getElem?_eq_getElem hj)
        rw [hx] at h1
        obtain rfl := Option.some.inj h1
        have h2' := s7 _ _ (s6 _ _ h2)
        refine Z.w_gname (σ' := [some (.ref Sa), some (.ref o), some (.ref R), some (.int (acc.length : Int)), some (.ref p), none, none, none, none, none, none, none]) rfl ⟨rfl, ?_⟩
        walk_at "w"
        refine ⟨_, e7, ?_, same_mut s7 hD2, hju, ?_⟩
        · rw [List.length_take]
          exact Nat.lt_of_le_of_lt (Nat.min_le_left _ _) (Nat.lt_trans (show j < 100 by omega) (by decide))
        · rw [upd_same, List.take_add_one, levs_get hj]
          rfl
      · rintro H7 ⟨s7, _, e7⟩
        rw [List.take_of_length_le (by rw [nV_len, levs_len, hul]; exact Nat.le_refl _)] at e7
        have eLev : nV (levs rs) = ((levs rs).map fun n : Nat => (n : Int)).map V.int := by
          unfold nV
          rw [List.map_map]
          rfl
        have hS7 : SqL K H7 D2 (((levs rs).map fun n : Nat => (n : Int)).map V.int) := by rw [← eLev]; exact .inl (.inl e7)
        walk_at "w"
        refine ⟨by omega, by omega, ?_⟩
        intro D3 hD3
        have en : ((acc.length : Int) + 1).toNat = dep rs + 1 := by omega
        rw [en]
        refine lc_range (lo := 0) (n := dep rs + 1) (fun j H8 => Same H7 H8 ∧ j ≤ dep rs + 1 ∧ H8 D3 = some (.lst ((sizesV rs).take j))) ?_ ?_ ?_
        · exact ⟨same_of (Same.refl _) hD3, Nat.zero_le _, upd_same⟩
        · rintro j H8 hj ⟨s8, _, e8⟩
          have hS8 : SqL K H8 D2 (((levs rs).map fun n : Nat => (n : Int)).map V.int) := Evl.ex_l s8 hS7
          refine Z.w_gname (σ' := [some (.ref Sa), some (.ref o), some (.ref R), some (.int (acc.length : Int)), none, some (.ref D2), none, some (.int (0 + (j : Int))), none, none, none, none]) rfl ⟨rfl, ?_⟩
          walk_at "w"
          refine Z.w_bm ?_
          walk_at "w"
          refine ⟨.inl ⟨rfl, _, hS8⟩, ?_⟩
          walk_at "w"
          refine ⟨D2, _, _, rfl, rfl, hS8, ?_⟩
          refine ⟨_, e8, ?_, same_mut s8 hD3, hj, ?_⟩
          · rw [List.length_take]
            exact Nat.lt_of_le_of_lt (Nat.min_le_left _ _) (Nat.lt_trans (show j < 100 by omega) (by decide))
          · rw [upd_same, List.take_add_one, Int.zero_add, count_levels]
            unfold sizesV
            rw [List.getElem?_map, List.getElem?_range hj]
            rfl
        · rintro H8 ⟨s8, _, e8⟩
          rw [List.take_of_length_le (by unfold sizesV; rw [List.length_map, List.length_range]; exact Nat.le_refl _)] at e8
          have sA : Same H H8 := (s6.trans s7).trans s8
          have hsA := hs.same sA
          rw [el]
          clear e7 e6 hS7
          walk_at "w"
          refine ⟨by decide, by decide, ?_⟩
          refine for_range (fun i σ H' => ∃ x8 x9 x10, σ = [some (.ref Sa), some (.ref o), some (.ref R), some (.int (dep rs : Int)), none, some (.ref D2), some (.ref D3), none, x8, x9, x10, none] ∧ Same H8 H') ?_ ?_ ?_
          · exact ⟨none, none, none, rfl, Same.refl _⟩
          · rintro i σ H' hi ⟨x8, x9, x10, rfl, sB⟩
            have hsB := hsA.same sB
            obtain ⟨n, ob⟩ := hsB.tr.ob
            walk_at "w"
            refine w_meth0 ob rfl (by rfl) ?_
            walk_at "w"
            refine ⟨o, t, ns, rs, rfl, hsB.tr, fun p hp => ?_⟩
            have sC := same_of (Same.refl H') hp (o := .lst ((lits rs).map V.int))
            have hsC := hsB.same sC
            obtain ⟨n2, ob2⟩ := hsC.tr.ob
            walk_at "w"
            refine w_meth0 ob2 rfl (by rfl) ?_
            walk_at "w"
            refine ⟨o, t, ns, rs, rfl, hsC.tr, by omega, fun p2 H9 s9 fp2 e9 => ?_⟩
            have ep9 := s9 _ _ (upd_same (H := H') (a := p) (o := .lst ((lits rs).map V.int)))
            have hs9 := hsC.same s9
            have hrw9 := hs9.rw
            have nO : p ≠ p2 := fun e => by subst e; rw [upd_same] at fp2; cases fp2
            have fp2' : H' p2 = none := by rw [upd_ne nO.symm] at fp2; exact fp2
            have s19 : Same H' H9 := sC.trans s9
            have e83 := s19 _ _ (sB _ _ e8)
            walk_at "w"
            intro D4 hD4
            refine lc_list (K := K) (xs := us) (fun j Hx => Same H9 Hx ∧ j ≤ us.length ∧ Hx D4 = some (.lst (((lits rs).map V.int).take j))) ?_ ?_ ?_ ?_
            · exact ⟨same_of (Same.refl _) hD4, Nat.zero_le _, upd_same⟩
            · rintro j Hx hj ⟨sx, _⟩
              exact .inl (.inl (sx _ _ hrw9))
            · rintro j v Hx hx ⟨sx, _, ex⟩
              have hju := (List.getElem?_eq_some_iff.mp hx).1
              have hj : j < rs.length := by rw [← hul]; exact hju
              obtain ⟨pp, h1, h2⟩ := hs9.rv.2 j _ (List.getElem?_eq_getElem hj)
              rw [hx] at h1
              obtain rfl := Option.some.inj h1
              have h2' := sx _ _ h2
              refine Z.w_gname (σ' := [some (.ref Sa), some (.ref o), some (.ref R), some (.int (dep rs : Int)), some (.ref pp), some (.ref D2), some (.ref D3), none, some (.int (0 + (i : Int))), some (.ref p), some (.ref p2), none]) rfl ⟨rfl, ?_⟩
              walk_at "w"
              refine ⟨_, ex, ?_, same_mut sx hD4, hju, ?_⟩
              · rw [List.length_take]
                exact Nat.lt_of_le_of_lt (Nat.min_le_left _ _) (Nat.lt_trans (show j < 100 by omega) (by decide))
              · rw [upd_same, List.take_add_one]
                unfold lits
                rw [List.getElem?_map, List.getElem?_map, List.getElem?_eq_getElem hj]
                rfl
            · rintro Hx ⟨sx, _, ex⟩
              have hll : ((lits rs).map V.int).length = rs.length := by rw [List.length_map]; exact List.length_map _
              rw [List.take_of_length_le (by rw [hll, hul]; exact Nat.le_refl _)] at ex
              have hsX := hs9.same sx
              have ob3 := hsX.tr.ob
              obtain ⟨n3, ob3⟩ := ob3
              walk_at "w"
              refine use_list (sx _ _ ep9) ex (fun u hu => ?_) (by omega) ?_
              · obtain ⟨y, _, rfl⟩ := List.mem_map.mp hu
                exact .inr (.inr ⟨y, rfl⟩)
              walk_at "w"
              refine use_list (sx _ _ e9) (sx _ _ e83) (fun u hu => ?_) ?_ ?_
              · obtain ⟨y, _, rfl⟩ := List.mem_map.mp hu
                exact .inr (.inr ⟨_, rfl⟩)
              · unfold sizesV
                rw [List.length_map, List.length_range]
                omega
              walk_at "w"
              refine w_meth0 ob3 rfl (by rfl) ?_
              walk_at "w"
              refine ⟨o, t, ns, rs, rfl, hsX.tr, ?_⟩
              walk_at "w"
              refine use_alike (.inr (.inr ⟨_, rfl⟩)) ?_
              walk_at "w"
              refine Z.w_bm ?_
              walk_at "w"
              refine ⟨.inl ⟨rfl, _, .inl (.inl (sx _ _ ep9))⟩, ?_⟩
              walk_at "w"
              refine ⟨p, _, _, rfl, rfl, sx _ _ ep9, ?_, ?_⟩
              · rw [hll]
                exact Nat.lt_of_le_of_lt hrl (by decide)
              have ep2 : (upd Hx p (.lst ((lits rs).map V.int ++ [V.int (0 + (i : Int))]))) p2 = some (.lst (sizesV rs)) := by
                rw [upd_ne nO.symm]
                exact sx _ _ e9
              walk_at "w"
              refine Z.w_bm ?_
              walk_at "w"
              refine ⟨.inl ⟨rfl, _, .inl (.inl ep2)⟩, ?_⟩
              walk_at "w"
              refine ⟨p2, _, 0, _, rfl, rfl, ep2, ?_, by decide, by decide, ?_⟩
              · unfold sizesV
                rw [List.length_map, List.length_range]
                exact Nat.lt_of_le_of_lt (show dep rs + 1 ≤ 31 by omega) (by decide)
              exact ⟨_, _, _, rfl, sB.trans (same_mut (same_mut (s19.trans sx) hp) fp2')⟩
          · rintro σ H' ⟨x8, x9, x10, rfl, sB⟩
            have hsB := hsA.same sB
            have hstB := hsB.st
            have hndB := hsB.nd
            walk_at "w"
            refine for_list (K := K) (xs := ns.map V.int) (fun i σ H9 => ∃ x11, σ = [some (.ref Sa), some (.ref o), some (.ref R), some (.int (dep rs : Int)), none, some (.ref D2), some (.ref D3), none, x8, x9, x10, x11] ∧ H9 = H') ?_ ?_ ?_ ?_
            · exact ⟨none, rfl, rfl⟩
            · rintro i σ H9 hi ⟨x11, rfl, rfl⟩
              exact .inl (.inl hndB)
            · rintro i v σ H9 hv ⟨x11, rfl, rfl⟩
              rw [List.getElem?_map] at hv
              cases e : ns[i]? with
              | none => rw [e] at hv; cases hv
              | some z =>
                rw [e] at hv
                obtain rfl := Option.some.inj hv
                have hz := hs.gn.2.1 z (List.mem_of_getElem? e)
                have hzm := List.mem_of_getElem? e
                have za : (z.natAbs : Int) = z := by omega
                walk_at "w"
                refine use_told1 hsB.tr hsB.rw hsB.rv hsB.tw (by rw [za]; exact hzm) (by omega) (by omega) ?_
                walk_at "w"
                refine use_told1 hsB.tr hsB.rw hsB.rv hsB.tw (by rw [Int.natAbs_neg, za]; exact hzm) (by omega) (by omega) ?_
                walk_at "w"
                first | exact ⟨_, rfl, rfl⟩ | rfl
            · rintro σ H9 ⟨x11, rfl, rfl⟩
              walk_at "w"
              exact h _ (sA.trans sB)
end
end L

namespace L
open PySem PySem.Spec PyProof.Rows L2 Z M MR MT X2
open _root_.SX (S S_len S_cat S_inj)
section
variable {P : Program} {w : World} {K : PySem.W.Frag} {mg : Str → Option Value} {base : Heap}
theorem lits_mem {rs : List TRow} {ns : List Int} (hm : ∀ r ∈ rs, (r.1.natAbs : Int) ∈ ns) {i : Int} (h : i ∈ lits rs) : (i.natAbs : Int) ∈ ns := by
  obtain ⟨r, hr, rfl⟩ := List.mem_map.mp h
  exact hm r hr
theorem val_of_mem {rs : List TRow} {i : Int} (h : i ∈ lits rs ∨ -i ∈ lits rs) : val rs i ≠ .non := by
  unfold val
  by_cases e : i ∈ lits rs
  · rw [if_pos e]
    intro z
    cases z
  · rw [if_neg e, if_pos (h.resolve_left e)]
    intro z
    cases z
theorem w_inOwn0 {C : Addr} {o dx : Addr} {fs : List (Str × V)} {i : Int} {sp : Sp} {H : Hp} {Q : VK} (h1 : H o = some (.ins C dx fs)) (h : sp [.ref o, .int i] H (fun v H' => ∃ b : Bool, v = .bl b ∧ Q (.bl b) H') E0) : OWN.rInOwn C sp false (.int i) (.ref o) H Q := ⟨o, dx, fs, rfl, h1, h⟩
def spDoors (CT : Addr) : Sp := fun vs H Q _ => ∃ (Sa o N R : Addr) (t : TrO) (x : Int) (ns : List Int) (us : List V) (rs : List TRow) (i k : Int), vs = [.ref Sa, .int i, .int k] ∧ SeatAt CT H Sa o t N R x ns us rs ∧ (i.natAbs : Int) ∉ ns ∧ i.natAbs < 2000000 ∧ 0 ≤ k ∧ k < 100 ∧ ∀ H', Same H H' → Q (.bl true) H'
theorem ok_doors (T : Txt K mg) : FnOk P w K mg base CX0 10 T.f_doors T.fd_doors ["_law_seat", "_law_literal_here", "_law_k"] (spDoors T.C_Trail) := by
  have G_refuses := ok_refuses (P := P) (w := w) (base := base) T
  have G_Trail_contains := ok_has (P := P) (w := w) (base := base) T
  refine T.F_doors.ok sc_doors (fun vs H Q E h => ?_) (fun cdv A outer s H vs Q E hr h => ?_)
  · obtain ⟨Sa, o, N, R, t, x, ns, us, rs, i, k, rfl, _⟩ := h
    rfl
  · obtain ⟨Sa, o, N, R, t, x, ns, us, rs, i, k, rfl, hs, hin, hi, hk0, hk1, h⟩ := h
    have hrl := rows_len hs.tw hs.mem hs.gn
    have hst := hs.st
    have hul := hs.rv.1
    have n0 : ∀ j : Int, (j.natAbs : Int) ∉ ns → j ∉ lits rs := fun j hj hm => hj (lits_mem hs.mem hm)
    refine ⟨_, (pss_cons (ps_set (i := 3) sc_doors.nd rfl (.inl rfl) (pe_ix ix_list (pv 0) pe_int (fun _ _ => rfl)))
 (pss_cons (ps_set (i := 4) sc_doors.nd rfl (.inl rfl) (pe_ix ix_list (pv 0) pe_int (fun _ _ => rfl)))
 (pss_cons (ps_for PassesOwn.never rfl (pi_range1 (by rfl) T.m_range (pa_cons pe_int pa_nil)) (pg_name (i := 5) sc_doors.nd rfl (.inl rfl)) (pss_one (ps_if (pt_not (pt_val (pe_call G_refuses (hr.mono (by first | decide | omega)) (by rfl) T.g_refuses T.F_refuses.kp T.b_refuses .nil pass0 (pa_cons (pv 3) (pa_cons (pv 5) (pa_cons (pv 1) (pa_cons (pe_op op_mod (pe_callTy call_int1 (by rfl) T.m_int (by decide +kernel) (pa_cons (pe_op op_add (pv 5) (pv 2)) pa_nil)) pe_int) pa_nil))))))) (pss_one (ps_ret pe_bl)) pss_nil)))
 (pss_cons (ps_if (PW.pt (pw_or (pt_cmpR (OWN.op_inOwn T.in_Trail G_Trail_contains T.b_Trail_contains (hr.mono (by first | decide | omega))) (pv 1) (pv 3) rfl) (pw_or (pt_cmpR (OWN.op_inOwn T.in_Trail G_Trail_contains T.b_Trail_contains (hr.mono (by first | decide | omega))) (pe_un un_neg (pv 1)) (pv 3) rfl) (pw_or (pt_cmpR (OWN.op_inOwn T.in_Trail G_Trail_contains T.b_Trail_contains (hr.mono (by first | decide | omega))) pe_int (pv 3) rfl) (pw_or1 (pt_cmpR (OWN.op_inOwn T.in_Trail G_Trail_contains T.b_Trail_contains (hr.mono (by first | decide | omega))) (pe_op op_add (pv 1) (pe_op op_pow pe_int pe_int)) (pv 3) rfl)))))) (pss_one (ps_ret pe_bl)) pss_nil)
 (pss_cons (ps_if (pt_cmpR op_eq (pe_callB call_len_seq (by rfl) T.m_len (by decide +kernel) (pa_cons (pv 4) pa_nil)) pe_int (nomark _)) (pss_one (ps_ret pe_bl)) pss_nil)
 (pss_cons (ps_set (i := 6) sc_doors.nd rfl (.inl rfl) (pe_ix ix_tup (pe_ix ix_list (pv 4) (pe_op op_mod (pe_callTy call_int1 (by rfl) T.m_int (by decide +kernel) (pa_cons (pv 2) pa_nil)) (pe_callB call_len_seq (by rfl) T.m_len (by decide +kernel) (pa_cons (pv 4) pa_nil))) (fun _ _ => rfl)) pe_int (fun _ _ => rfl)))
 (pss_cons (ps_for PassesOwn.never rfl (pi_range2 (by rfl) T.m_range (pa_cons pe_int (pa_cons pe_int pa_nil))) (pg_name (i := 5) sc_doors.nd rfl (.inl rfl)) (pss_one (ps_if (PW.pt (pw_or (pt_not (pt_val (pe_call G_refuses (hr.mono (by first | decide | omega)) (by rfl) T.g_refuses T.F_refuses.kp T.b_refuses .nil pass0 (pa_cons (pv 3) (pa_cons (pv 5) (pa_cons (pv 6) (pa_cons (pe_op op_mod (pe_callTy call_int1 (by rfl) T.m_int (by decide +kernel) (pa_cons (pe_op op_add (pv 5) (pv 2)) pa_nil)) pe_int) pa_nil))))))) (pw_or1 (pt_not (pt_val (pe_call G_refuses (hr.mono (by first | decide | omega)) (by rfl) T.g_refuses T.F_refuses.kp T.b_refuses .nil pass0 (pa_cons (pv 3) (pa_cons (pv 5) (pa_cons (pe_un un_neg (pv 6)) (pa_cons (pe_op op_mod (pe_callTy call_int1 (by rfl) T.m_int (by decide +kernel) (pa_cons (pv 2) pa_nil)) pe_int) pa_nil)))))))))) (pss_one (ps_ret pe_bl)) pss_nil)))
 (pss_one (ps_ret pe_bl))))))))), ?_⟩
    refine Z.w_start (σ' := [some (.ref Sa), some (.int i), some (.int k), none, none, none, none]) rfl ?_
    walk_at "w"
    refine ⟨by decide, by decide, ?_⟩
    refine for_range (fun j σ H' => ∃ x5, σ = [some (.ref Sa), some (.int i), some (.int k), some (.ref o), some (.ref R), x5, none] ∧ Same H H') ?_ ?_ ?_
    · exact ⟨none, rfl, Same.refl _⟩
    · rintro j σ H' hj ⟨x5, rfl, sm⟩
      have hj6 : j < 6 := hj
      walk_at "w"
      refine use_refuses (hs.same sm).tr (by omega) (by omega) ⟨by omega, by omega, fun _ => hin, fun _ z => hin z.1⟩ fun H2 s2 => ?_
      walk_at "w"
      first | exact ⟨_, rfl, sm.trans s2⟩ | exact sm.trans s2
    · rintro σ H' ⟨x5, rfl, sm⟩
      have hs2 := hs.same sm
      obtain ⟨n, ob⟩ := hs2.tr.ob
      have hrw := hs2.rw
      walk_at "w"
      refine w_inOwn0 ob ⟨o, t, ns, rs, i, rfl, hs2.tr, ?_⟩
      rw [decide_eq_false (n0 i hin)]
      walk_at "w"
      refine w_inOwn0 ob ⟨o, t, ns, rs, -i, rfl, hs2.tr, ?_⟩
      rw [decide_eq_false (n0 (-i) (by rw [Int.natAbs_neg]; exact hin))]
      walk_at "w"
      refine w_inOwn0 ob ⟨o, t, ns, rs, 0, rfl, hs2.tr, ?_⟩
      rw [decide_eq_false (n0 0 (fun z => by have := hs.gn.2.1 _ z; omega))]
      walk_at "w"
      have e18 : (10 : Int) ^ Int.toNat 18 = 1000000000000000000 := by decide
      rw [e18]
      refine w_inOwn0 ob ⟨o, t, ns, rs, i + 1000000000000000000, rfl, hs2.tr, ?_⟩
      rw [decide_eq_false (n0 _ (fun z => by have := hs.gn.2.1 _ z; omega))]
      walk_at "w"
      by_cases h0 : rs.length = 0
      · walk_at "w"
        exact h _ sm
      · have m0 := Int.emod_nonneg k (show (us.length : Int) ≠ 0 by omega)
        have m1 := Int.emod_lt_of_pos k (show (0 : Int) < (us.length : Int) by omega)
        obtain ⟨m, em⟩ := Int.eq_ofNat_of_zero_le m0
        have hm : m < rs.length := by omega
        obtain ⟨p, g1, g2⟩ := hs2.rv.2 m _ (List.getElem?_eq_getElem hm)
        have hat : atI us (k % (us.length : Int)) = some (.ref p) := by rw [em]; exact atI_nat g1
        have hmem : rs[m] ∈ rs := List.getElem_mem hm
        have hml : rs[m].1 ∈ lits rs := List.mem_map.mpr ⟨_, hmem, rfl⟩
        have hmn := hs.mem _ hmem
        have hmb := hs.gn.2.1 _ hmn
        walk_at "w"
        refine ⟨4, 6, rfl, ⟨by decide, by decide, by decide, by decide⟩, ?_⟩
        refine for_range (fun j σ H2 => ∃ x5, σ = [some (.ref Sa), some (.int i), some (.int k), some (.ref o), some (.ref R), x5, some (.int rs[m].1)] ∧ Same H H2) ?_ ?_ ?_
        · exact ⟨_, rfl, sm⟩
        · rintro j σ H2 hj ⟨x6, rfl, sm2⟩
          have hj6 : j < 2 := hj
          walk_at "w"
          refine use_refuses (hs.same sm2).tr (by omega) (by omega) ⟨by omega, by omega, fun z => by omega, fun _ z => val_of_mem (.inl hml) z.2⟩ fun H3 s3 => ?_
          walk_at "w"
          refine use_refuses (hs.same (sm2.trans s3)).tr (by omega) (by omega) ⟨by omega, by omega, fun z => by omega, fun _ z => val_of_mem (.inr (by rw [Int.neg_neg]; exact hml)) z.2⟩ fun H4 s4 => ?_
          walk_at "w"
          first | exact ⟨_, rfl, (sm2.trans s3).trans s4⟩ | exact (sm2.trans s3).trans s4
        · rintro σ H2 ⟨x6, rfl, sm2⟩
          walk_at "w"
          exact h _ sm2
end
end L

namespace L
open PySem PySem.Spec PyProof.Rows L2 Z M MR MT X2
open _root_.SX (S S_len S_cat S_inj)
def tm (t : TrO) : List Addr := [t.ll, t.lv, t.lr, t.dp, t.ls, t.lt]
/-- the parts of a seat stand apart -/
structure Sep (Sa o N R : Addr) (t : TrO) : Prop where
  sa : Sa ∉ o :: t.dn :: tm t
  n1 : N ∉ o :: t.dn :: tm t
  r1 : R ∉ o :: t.dn :: tm t
  n2 : N ≠ Sa
  r2 : R ≠ Sa
  dn : t.dn ∉ o :: tm t
/-- what a deed leaves -/
def Frm (q Sa o : Addr) (t : TrO) (H H' : Hp) : Prop := ∀ b u, b ∉ q :: Sa :: o :: tm t → H b = some u → H' b = some u
theorem TrAt.stay {C o : Addr} {t : TrO} {ns : List Int} {rs : List TRow} {H H' : Hp} (h : TrAt C H o t ns rs) (s : ∀ b u, b ∈ o :: t.dn :: tm t → H b = some u → H' b = some u) : TrAt C H' o t ns rs := by
  obtain ⟨⟨n, a⟩, ⟨kn, b, b2⟩, c, d, e, f, g, ⟨ts, i, i2⟩, j⟩ := h
  exact ⟨⟨n, s _ _ (by simp) a⟩, ⟨kn, s _ _ (by simp) b, b2⟩, s _ _ (by simp [tm]) c, s _ _ (by simp [tm]) d, s _ _ (by simp [tm]) e, s _ _ (by simp [tm]) f, s _ _ (by simp [tm]) g, ⟨ts, s _ _ (by simp [tm]) i, i2⟩, j⟩
theorem tup_own {C Sa o N R : Addr} {t : TrO} {x : Int} {ns : List Int} {us : List V} {rs : List TRow} {H : Hp} (h : SeatAt C H Sa o t N R x ns us rs) {b : Addr} {xs : List V} (hb : H b = some (.tup xs)) : b ∉ Sa :: o :: tm t := by
  obtain ⟨⟨n, a⟩, ⟨kn, b', b2⟩, c, d, e, f, g, ⟨ts, i, i2⟩, j⟩ := h.tr
  intro hm
  simp only [tm, List.mem_cons, List.not_mem_nil, or_false] at hm
  rcases hm with rfl | rfl | rfl | rfl | rfl | rfl | rfl | rfl
  · rw [h.st] at hb; cases hb
  · rw [a] at hb; cases hb
  · rw [c] at hb; cases hb
  · rw [d] at hb; cases hb
  · rw [e] at hb; cases hb
  · rw [f] at hb; cases hb
  · rw [g] at hb; cases hb
  · rw [i] at hb; cases hb
theorem tup_pool {q b : Addr} {xs : List V} {H : Hp} (h : PoolAt H q) (hb : H b = some (.tup xs)) : b ≠ q := by
  rintro rfl
  obtain ⟨o, h1, c, k, d, e, rfl⟩ := h
  rw [h1] at hb
  cases hb
def allS (Sa o N R : Addr) (t : TrO) : List Addr := Sa :: N :: R :: o :: t.dn :: tm t
theorem mem_all {Sa o N R b : Addr} {t : TrO} (h : b ∈ o :: t.dn :: tm t) : b ∈ allS Sa o N R t := List.mem_cons_of_mem _ (List.mem_cons_of_mem _ (List.mem_cons_of_mem _ h))
theorem mem_dn {o b : Addr} {t : TrO} (h : b ∈ o :: tm t) : b ∈ o :: t.dn :: tm t := by
  rcases List.mem_cons.mp h with e | e
  · rw [e]
    exact List.mem_cons_self
  · exact List.mem_cons_of_mem _ (List.mem_cons_of_mem _ e)
/-- only the pool has changed -/
theorem seat_pool {C q Sa o N R : Addr} {t : TrO} {x : Int} {ns : List Int} {us : List V} {rs : List TRow} {H H' : Hp} (hs : SeatAt C H Sa o t N R x ns us rs) (hp : PoolAt H q) (hq : q ∉ allS Sa o N R t) (fr : ∀ b u, b ≠ q → H b = some u → H' b = some u) : SeatAt C H' Sa o t N R x ns us rs := by
  have ne : ∀ b, b ∈ allS Sa o N R t → b ≠ q := fun b hb e => hq (e ▸ hb)
  refine ⟨hs.tr.stay fun b u hb => fr b u (ne b (mem_all hb)), fr _ _ (ne _ (by simp [allS])) hs.st, fr _ _ (ne _ (by simp [allS])) hs.nd, fr _ _ (ne _ (by simp [allS])) hs.rw, hs.rv.tup fun b xs hb => fr b _ (tup_pool hp hb) hb, hs.gn, hs.tw, hs.mem, hs.xo⟩
theorem seat_mid {C q Sa o N R : Addr} {t : TrO} {x : Int} {ns : List Int} {us : List V} {rs : List TRow} {H Hc : Hp} {u0 : HO} (hs : SeatAt C H Sa o t N R x ns us rs) (hq : q ∉ allS Sa o N R t) (sep : Sep Sa o N R t) (fr : ∀ b u, b ≠ q → H b = some u → Hc b = some u) : TrAt C (upd Hc Sa u0) o t ns rs := by
  refine hs.tr.stay fun b u hb e => ?_
  rw [upd_ne (fun z : b = Sa => sep.sa (by rw [← z]; exact hb))]
  exact fr b u (fun z => hq (by rw [← z]; exact mem_all hb)) e
theorem seat_fin {C q Sa o N R R' : Addr} {t : TrO} {x : Int} {ns : List Int} {us us' : List V} {rs rs' : List TRow} {H Hc H' : Hp} (hs : SeatAt C H Sa o t N R x ns us rs) (hp : PoolAt H q) (hq : q ∉ allS Sa o N R t) (sep : Sep Sa o N R t) (fr : ∀ b u, b ≠ q → H b = some u → Hc b = some u) (hpc : PoolAt Hc q)
    (hR : Hc R' = some (.lst us')) (hf : H R' = none) (hrv : RowsV Hc us' rs') (tw : NoTwin rs') (mem : ∀ r ∈ rs', (r.1.natAbs : Int) ∈ ns) (tx : TrX o t (upd Hc Sa (.lst [.ref o, .ref N, .ref R', .int x])) H') (tr : TrAt C H' o t ns rs') :
    Frm q Sa o t H H' ∧ PoolAt H' q ∧ SeatAt C H' Sa o t N R' x ns us' rs' := by
  have htx : ∀ b u, b ∉ o :: tm t → (upd Hc Sa (.lst [.ref o, .ref N, .ref R', .int x])) b = some u → H' b = some u := tx
  have hall : ∀ b, b ∈ Sa :: o :: tm t → ∃ u, H b = some u := by
    obtain ⟨⟨n, a⟩, ⟨kn, b', b2⟩, c, d, e, f, g, ⟨ts, i, i2⟩, j⟩ := hs.tr
    intro b hm
    simp only [tm, List.mem_cons, List.not_mem_nil, or_false] at hm
    rcases hm with rfl | rfl | rfl | rfl | rfl | rfl | rfl | rfl
    · exact ⟨_, hs.st⟩
    · exact ⟨_, a⟩
    · exact ⟨_, c⟩
    · exact ⟨_, d⟩
    · exact ⟨_, e⟩
    · exact ⟨_, f⟩
    · exact ⟨_, g⟩
    · exact ⟨_, i⟩
  have frm : Frm q Sa o t H H' := fun b u hb e => by
    simp only [List.mem_cons, not_or] at hb
    refine htx b u (by simp only [List.mem_cons, not_or]; exact hb.2.2) ?_
    rw [upd_ne hb.2.1]
    exact fr b u hb.1 e
  have nin : ∀ b, b ∈ allS Sa o N R t → b ≠ q := fun b hb e => hq (e ▸ hb)
  have hsub : ∀ b, b ∉ o :: t.dn :: tm t → b ∉ o :: tm t := fun b hb z => hb (mem_dn z)
  refine ⟨frm, ?_, tr, ?_, ?_, ?_, ?_, hs.gn, tw, mem, hs.xo⟩
  · obtain ⟨ob, h1, h2⟩ := hpc
    refine ⟨ob, htx q _ (fun z => hq (mem_all (mem_dn z))) ?_, h2⟩
    rw [upd_ne (fun z => hq (by rw [z]; simp [allS]))]
    exact h1
  · exact htx _ _ (hsub _ sep.sa) upd_same
  · refine htx _ _ (hsub _ sep.n1) ?_
    rw [upd_ne sep.n2]
    exact fr _ _ (nin _ (by simp [allS])) hs.nd
  · have nR : R' ∉ Sa :: o :: tm t := fun z => by
      obtain ⟨u, hu⟩ := hall _ z
      rw [hf] at hu
      cases hu
    rw [List.mem_cons, not_or] at nR
    refine htx _ _ nR.2 ?_
    rw [upd_ne nR.1]
    exact hR
  · refine hrv.tup fun b xs hb => ?_
    have nb : b ∉ Sa :: o :: tm t := fun z => by
      by_cases e : b = Sa
      · subst e
        rw [fr _ _ (nin _ (by simp [allS])) hs.st] at hb
        cases hb
      · have hb2 : b ∈ o :: tm t := (List.mem_cons.mp z).resolve_left e
        have hmid := seat_mid (u0 := .lst []) hs hq sep fr
        obtain ⟨⟨n, a⟩, ⟨kn, b', b2⟩, c, d, ee, f, g, ⟨ts, i, i2⟩, j⟩ := hmid
        rw [← upd_ne (H := Hc) (a := Sa) (o := .lst []) e] at hb
        simp only [tm, List.mem_cons, List.not_mem_nil, or_false] at hb2
        rcases hb2 with rfl | rfl | rfl | rfl | rfl | rfl | rfl
        · rw [a] at hb; cases hb
        · rw [c] at hb; cases hb
        · rw [d] at hb; cases hb
        · rw [ee] at hb; cases hb
        · rw [f] at hb; cases hb
        · rw [g] at hb; cases hb
        · rw [i] at hb; cases hb
    rw [List.mem_cons, not_or] at nb
    refine htx b _ nb.2 ?_
    rw [upd_ne nb.1]
    exact hb
section
variable {P : Program} {w : World} {K : PySem.W.Frag} {mg : Str → Option Value} {base : Heap}
theorem w_ninI {p : Addr} {x : Int} {ls : List Int} {H : Hp} {Q : VK} (h : SqL K H p (ls.map V.int)) (q : Q (.bl (!decide (x ∈ ls))) H) : rIn K true (.int x) (.ref p) H Q := w_opin (.inl h) rfl (flat_ints ls) (by rw [inV_int]; exact q)
def spDeed (CT : Addr) : Sp := fun vs H Q _ => ∃ (q Sa o N R : Addr) (t : TrO) (x : Int) (ns : List Int) (us : List V) (rs : List TRow), vs = [.ref q, .ref Sa] ∧ PoolAt H q ∧ q ∉ allS Sa o N R t ∧ SeatAt CT H Sa o t N R x ns us rs ∧ Sep Sa o N R t ∧
  ∀ H' R' us' rs', Frm q Sa o t H H' → PoolAt H' q → SeatAt CT H' Sa o t N R' x ns us' rs' → (R' = R ∨ H R' = none) → Q (.bl true) H'
theorem ok_deed (T : Txt K mg) : FnOk P w K mg base CX0 10 T.f_deed T.fd_deed ["_law_pool_here", "_law_seat"] (spDeed T.C_Trail) := by
  have G_take := ok_take (P := P) (w := w) (base := base) T
  have G_literal := ok_Lliteral (P := P) (w := w) (base := base) T
  have G_place := ok_Lplace (P := P) (w := w) (base := base) T
  have G_refuses := ok_refuses (P := P) (w := w) (base := base) T
  have G_Trail_back := ok_back (P := P) (w := w) (base := base) T
  have G_Trail_force := ok_force (P := P) (w := w) (base := base) T
  have G_Trail_choose := ok_choose (P := P) (w := w) (base := base) T
  refine T.F_deed.ok sc_deed (fun vs H Q E h => ?_) (fun cdv A outer s H vs Q E hr h => ?_)
  · obtain ⟨q, Sa, o, N, R, t, x, ns, us, rs, rfl, _⟩ := h
    rfl
  · obtain ⟨q, Sa, o, N, R, t, x, ns, us, rs, rfl, hp, hq, hs, sep, h⟩ := h
    have hrl := rows_len hs.tw hs.mem hs.gn
    have hul := hs.rv.1
    have hst := hs.st
    have hrw := hs.rw
    have nSq : Sa ≠ q := fun e => hq (by rw [← e]; simp [allS])
    have nRq : R ≠ q := fun e => hq (by rw [← e]; simp [allS])
    have nNq : N ≠ q := fun e => hq (by rw [← e]; simp [allS])
    refine ⟨_, (pss_cons (ps_set (i := 2) sc_deed.nd rfl (.inl rfl) (pe_ix ix_list (pv 1) pe_int (fun _ _ => rfl)))
 (pss_cons (ps_set (i := 3) sc_deed.nd rfl (.inl rfl) (pe_ix ix_list (pv 1) pe_int (fun _ _ => rfl)))
 (pss_cons (ps_set (i := 4) sc_deed.nd rfl (.inl rfl) (pe_callB call_len_seq (by rfl) T.m_len (by decide +kernel) (pa_cons (pe_lc (own := [("_law_row", 5)]) (g := gName 5) (by rfl) sc_deed.nd (pi_list (pv 3)) (blkOk_by (own := [("_law_row", 5)]) (N := N_deed) (sc := defScope s_deed) (by decide +kernel)) (fun _ _ _ _ _ => pg_name (i := 5) sc_deed.nd rfl (Or.inl rfl)) (fun _ _ _ _ _ => pts_one (pt_cmpR op_isN (pe_ix (show IxR _ (rIxT K) from ix_tup) (pv 5) pe_int (fun _ _ => rfl)) pe_non (nomark _))) (fun _ _ _ _ _ => (pv 5))) pa_nil)))
 (pss_cons (ps_set (i := 6) sc_deed.nd rfl (.inl rfl) (pe_call G_take (hr.mono (by first | decide | omega)) (by rfl) T.g_take T.F_take.kp T.b_take .nil pass0 (pa_cons (pv 0) (pa_cons pe_int pa_nil))))
 (pss_cons (ps_if (pt_cmpR op_eq (pv 6) pe_int (nomark _)) (pss_cons (ps_set (i := 7) sc_deed.nd rfl (.inr rfl) (pe_call G_take (hr.mono (by first | decide | omega)) (by rfl) T.g_take T.F_take.kp T.b_take .nil pass0 (pa_cons (pv 0) (pa_cons (pe_op op_add (pv 4) pe_int) pa_nil))))
 (pss_cons (ps_asg (pe_lc (own := [("_law_row", 5)]) (g := gName 5) (by rfl) sc_deed.nd (pi_list (pv 3)) (blkOk_by (own := [("_law_row", 5)]) (N := N_deed) (sc := defScope s_deed) (by decide +kernel)) (fun _ _ _ _ _ => pg_name (i := 5) sc_deed.nd rfl (Or.inl rfl)) (fun _ _ _ _ _ => pts_one (pt_cmpR op_le (pe_ix (show IxR _ (rIxT K) from ix_tup) (pv 5) pe_int (fun _ _ => rfl)) (pv 7) (nomark _))) (fun _ _ _ _ _ => (pv 5))) (pg_sub (pv 1) pe_int set_list))
 (pss_one (ps_ret (pe_cmpR op_isN (pe_meth (pv 2) T.cl_Trail T.M_Trail_back G_Trail_back (hr.mono (by first | decide | omega)) T.b_Trail_back .nil pass0 (pa_cons (pv 7) pa_nil)) pe_non (nomark _)))))) pss_nil)
 (pss_cons (ps_set (i := 8) sc_deed.nd rfl (.inl rfl) (pe_call G_literal (hr.mono (by first | decide | omega)) (by rfl) T.g_literal T.F_literal.kp T.b_literal .nil pass0 (pa_cons (pv 0) (pa_cons (pe_ix ix_list (pv 1) pe_int (fun _ _ => rfl)) (pa_cons (pv 3) pa_nil)))))
 (pss_cons (ps_if (PW.pt (pw_or (pt_cmpR op_notIn_seq (pe_callB call_abs (by rfl) T.m_abs (by decide +kernel) (pa_cons (pv 8) pa_nil)) (pe_ix ix_list (pv 1) pe_int (fun _ _ => rfl)) rfl) (pw_or1 (pt_cmpR op_ge (pe_call G_place (hr.mono (by first | decide | omega)) (by rfl) T.g_place T.F_place.kp T.b_place .nil pass0 (pa_cons (pv 3) (pa_cons (pv 8) pa_nil))) pe_int (nomark _))))) (pss_one (ps_ret (pe_call G_refuses (hr.mono (by first | decide | omega)) (by rfl) T.g_refuses T.F_refuses.kp T.b_refuses .nil pass0 (pa_cons (pv 2) (pa_cons (pe_op op_add pe_int (pe_op op_mod (pe_callTy call_int1 (by rfl) T.m_int (by decide +kernel) (pa_cons (pv 6) pa_nil)) pe_int)) (pa_cons (pv 8) (pa_cons (pe_call G_take (hr.mono (by first | decide | omega)) (by rfl) T.g_take T.F_take.kp T.b_take .nil pass0 (pa_cons (pv 0) (pa_cons pe_int pa_nil))) pa_nil))))))) pss_nil)
 (pss_cons (ps_if (pt_cmpR op_gt (pv 6) pe_int (nomark _)) (pss_cons (ps_set (i := 9) sc_deed.nd rfl (.inl rfl) (pe_call G_take (hr.mono (by first | decide | omega)) (by rfl) T.g_take T.F_take.kp T.b_take .nil pass0 (pa_cons (pv 0) (pa_cons (pe_ix ix_tup (pe_tup (pa_cons pe_int (pa_cons pe_int (pa_cons pe_int pa_nil)))) (pe_call G_take (hr.mono (by first | decide | omega)) (by rfl) T.g_take T.F_take.kp T.b_take .nil pass0 (pa_cons (pv 0) (pa_cons pe_int pa_nil))) (fun _ _ => rfl)) pa_nil))))
 (pss_cons (ps_asg (pe_op op_cat (pv 3) (pe_lst (pa_cons (pe_tup (pa_cons (pv 8) (pa_cons (pv 4) (pa_cons (pv 9) pa_nil)))) pa_nil))) (pg_sub (pv 1) pe_int set_list))
 (pss_one (ps_ret (pe_cmpR op_isN (pe_meth (pv 2) T.cl_Trail T.M_Trail_force G_Trail_force (hr.mono (by first | decide | omega)) T.b_Trail_force .nil X2.passN (pa_cons (pv 8) (pa_cons (pv 9) pa_nil))) pe_non (nomark _)))))) pss_nil)
 (pss_cons (ps_asg (pe_op op_cat (pv 3) (pe_lst (pa_cons (pe_tup (pa_cons (pv 8) (pa_cons (pe_op op_add (pv 4) pe_int) (pa_cons pe_non pa_nil)))) pa_nil))) (pg_sub (pv 1) pe_int set_list))
 (pss_one (ps_ret (pe_cmpR op_isN (pe_meth (pv 2) T.cl_Trail T.M_Trail_choose G_Trail_choose (hr.mono (by first | decide | omega)) T.b_Trail_choose .nil X2.passN (pa_cons (pv 8) pa_nil)) pe_non (nomark _))))))))))))), ?_⟩
    refine Z.w_start (σ' := [some (.ref q), some (.ref Sa), none, none, none, none, none, none, none, none]) rfl ?_
    walk_at "w"
    intro D hD
    refine lc_list (K := K) (xs := us) (fun j H6 => Same H H6 ∧ ∃ acc, H6 D = some (.lst acc) ∧ acc.length = dep (rs.take j)) ?_ ?_ ?_ ?_
    · exact ⟨same_of (Same.refl _) hD, [], upd_same, rfl⟩
    · rintro j H6 hj ⟨s6, _⟩
      exact .inl (.inl (s6 _ _ hrw))
    · rintro j v H6 hx ⟨s6, acc, e6, el⟩
      have hj : j < rs.length := by rw [← hul]; exact (List.getElem?_eq_some_iff.mp hx).1
      have hr2 : rs[j]? = some rs[j] := List.getElem?_eq_getElem hj
      obtain ⟨p, h1, h2⟩ := hs.rv.2 j _ hr2
      rw [hx] at h1
      obtain rfl := Option.some.inj h1
      have h2' := s6 _ _ h2
      have hd := dep_take_succ hr2
      refine Z.w_gname (σ' := [some (.ref q), some (.ref Sa), some (.ref o), some (.ref R), none, some (.ref p), none, none, none, none]) rfl ⟨rfl, ?_⟩
      walk_at "w"
      rw [rV_non]
      cases hn : rs[j].2.isNone with
      | true =>
        rw [hn, if_pos rfl] at hd
        walk_at "w"
        refine ⟨acc, e6, ?_, same_mut s6 hD, acc ++ [.ref p], upd_same, by rw [List.length_append, el, hd]; rfl⟩
        rw [el]
        exact Nat.lt_of_le_of_lt (Nat.le_trans (dep_take_le _ _) (Nat.le_trans List.countP_le_length hrl)) (by decide)
      | false =>
        rw [hn, if_neg (by decide)] at hd
        walk_at "w"
        exact ⟨s6, acc, e6, by rw [el, hd]; rfl⟩
    · rintro H6 ⟨s6, acc, e6, el⟩
      rw [hul, List.take_length] at el
      have hdl : dep rs ≤ 30 := Nat.le_trans List.countP_le_length hrl
      have pl6 : PoolAt H6 q := hp.same s6
      walk_at "w"
      rename_i r1 H7 px7 r10 r11
      rw [el]
      have st7 := px7.sx _ _ nSq (s6 _ _ hst)
      have rw7 := px7.sx _ _ nRq (s6 _ _ hrw)
      have pl7 := px7.pl
      by_cases h6 : r1 = 6
      · walk_at "w"
        rename_i r2 H8 px8 r20 r21
        obtain ⟨L, rfl⟩ := Int.eq_ofNat_of_zero_le r20
        have rw8 := px8.sx _ _ nRq rw7
        have st8 := px8.sx _ _ nSq st7
        have fr8 : ∀ b u, b ≠ q → H b = some u → H8 b = some u := fun b u n e => px8.sx _ _ n (px7.sx _ _ n (s6 _ _ e))
        have hk := key rs L
        refine ⟨⟨us, .inl (.inl rw8)⟩, fun D2 hD2 => ?_⟩
        have fD2 : H D2 = none := fresh_of1 s6 (fresh_px px7 pl6 (fresh_px px8 pl7 hD2))
        refine lc_list (K := K) (xs := us) (fun j H9 => Same H8 H9 ∧ j ≤ us.length ∧ H9 D2 = some (.lst (us.take (min j (ed rs (L + 1)))))) ?_ ?_ ?_ ?_
        · exact ⟨same_of (Same.refl _) hD2, Nat.zero_le _, by rw [Nat.zero_min]; exact upd_same⟩
        · rintro j H9 hj ⟨s9, _⟩
          exact .inl (.inl (s9 _ _ rw8))
        · rintro j v H9 hx ⟨s9, _, e9⟩
          have hju := (List.getElem?_eq_some_iff.mp hx).1
          have hj : j < rs.length := by rw [← hul]; exact hju
          obtain ⟨p, h1, h2⟩ := hs.rv.2 j _ (List.getElem?_eq_getElem hj)
          have hx1 := hx
          rw [hx] at h1
          obtain rfl := Option.some.inj h1
          have h2' := s9 _ _ (fr8 _ _ (tup_pool hp h2) h2)
          refine Z.w_gname (σ' := [some (.ref q), some (.ref Sa), some (.ref o), some (.ref R), some (.int (dep rs : Int)), some (.ref p), some (.int r1), some (.int (L : Int)), none, none]) rfl ⟨rfl, ?_⟩
          walk_at "w"
          by_cases hle : lev rs j ≤ L
          · have hjn := (hk j hj).mp hle
            refine Z.w_iteT (by omega) ?_
            walk_at "w"
            refine ⟨_, e9, ?_, same_mut s9 hD2, hju, ?_⟩
            · rw [List.length_take]
              exact Nat.lt_of_le_of_lt (Nat.min_le_left _ _) (Nat.lt_trans (show min j (ed rs (L + 1)) < 100 by omega) (by decide))
            · rw [upd_same, show min j (ed rs (L + 1)) = j by omega, show min (j + 1) (ed rs (L + 1)) = j + 1 by omega, List.take_add_one, hx1]
              rfl
          · have hjn : ¬ j < ed rs (L + 1) := fun z => hle ((hk j hj).mpr z)
            refine Z.w_iteF (by omega) ?_
            walk_at "w"
            refine ⟨s9, hju, ?_⟩
            rw [show min (j + 1) (ed rs (L + 1)) = min j (ed rs (L + 1)) by omega]
            exact e9
        · rintro H9 ⟨s9, _, e9⟩
          rw [hul, show min rs.length (ed rs (L + 1)) = ed rs (L + 1) from Nat.min_eq_right (ed_le rs _)] at e9
          have st9 := s9 _ _ st8
          have fr9 : ∀ b u, b ≠ q → H b = some u → H9 b = some u := fun b u n e => s9 _ _ (fr8 b u n e)
          walk_at "w"
          have htm := seat_mid (u0 := .lst [.ref o, .ref N, .ref D2, .int x]) hs hq sep fr9
          obtain ⟨n9, ob9⟩ := htm.ob
          refine w_meth0 ob9 rfl (by rfl) ?_
          walk_at "w"
          refine ⟨o, t, ns, rs, L, rfl, htm, by omega, twin_lits hs.tw, fun H' tx tr => ?_⟩
          obtain ⟨f1, f2, f3⟩ := seat_fin hs hp hq sep fr9 (px8.pl.same s9) e9 fD2 ((hs.rv.tup fun b xs hb => fr9 b _ (tup_pool hp hb) hb).take _) (by
            unfold NoTwin
            rw [List.map_take]
            exact List.Pairwise.take hs.tw) (fun r hr => hs.mem r (List.mem_of_mem_take hr)) tx tr
          walk_at "w"
          exact h _ _ _ _ f1 f2 f3 (.inr fD2)
      · have fr7 : ∀ b u, b ≠ q → H b = some u → H7 b = some u := fun b u n e => px7.sx _ _ n (s6 _ _ e)
        have hs7 := seat_pool hs hp hq fr7
        have nd7 := hs7.nd
        walk_at "w"
        refine ⟨q, N, R, ns, us, rs, rfl, pl7, nd7, nNq, hs.gn, rw7, nRq, hs7.rv, by omega, fun i H8 px8 i1 i2 => ?_⟩
        have fr8 : ∀ b u, b ≠ q → H b = some u → H8 b = some u := fun b u n e => px8.sx _ _ n (fr7 b u n e)
        have hs8 := seat_pool hs hp hq fr8
        have nd8 := hs8.nd
        have st8 := hs8.st
        have rw8 := hs8.rw
        have pl8 := px8.pl
        have frS : ∀ H9, (∀ b u, b ≠ q → H b = some u → H9 b = some u) → Frm q Sa o t H H9 := fun H9 f b u hb e => f b u (fun z => hb (by rw [z]; exact List.mem_cons_self)) e
        have bad : RefD ns rs (4 + r1 % 2) i → ∀ (r2 : Int) (H9 : Hp), PX q H8 H9 → ∀ Q9 : VK, (∀ H', Q (.bl true) H' → Q9 (.bl true) H') → spRefuses T.C_Trail [.ref o, .int (4 + r1 % 2), .int i, .int r2] H9 Q9 E0 := fun hd r2 H9 px9 Q9 hQ => by
          have fr9 : ∀ b u, b ≠ q → H b = some u → H9 b = some u := fun b u n e => px9.sx _ _ n (fr8 b u n e)
          have hs9 := seat_pool hs hp hq fr9
          refine use_refuses hs9.tr (by omega) (by omega) hd fun H' s' => hQ _ (h H' R us rs (frS H' fun b u n e => s' _ _ (fr9 b u n e)) (px9.pl.same s') (hs9.same s') (.inl rfl))
        walk_at "w"
        rw [abs_nat]
        refine w_ninI (.inl (.inl nd8)) ?_
        by_cases hm : (i.natAbs : Int) ∈ ns
        · rw [decide_eq_true hm]
          walk_at "w"
          refine use_place rw8 hs8.rv (by omega) ?_
          cases e : pos rs i with
          | some k =>
            obtain ⟨r, hr2, hr3, _⟩ := pos_some e
            obtain ⟨_, g2, _⟩ := told_at hs.tw e hr2
            dsimp only [pV]
            walk_at "w"
            rename_i r2 H9 px9 r20 r21
            exact bad ⟨by omega, by omega, fun z => by omega, fun _ z => by rw [g2] at z; exact nomatch z.2⟩ r2 H9 px9 _ fun H' hQ => hQ
          | none =>
            obtain ⟨_, g2, g3, g4⟩ := told_no e
            dsimp only [pV]
            have tw2 : ∀ rr : Option Int, NoTwin (rs ++ [(i, rr)]) := fun rr => by
              unfold NoTwin
              rw [List.map_append, List.nodup_append]
              refine ⟨hs.tw, by simp, fun a ha b hb z => ?_⟩
              obtain ⟨r, hr, rfl⟩ := List.mem_map.mp ha
              rw [List.map_cons, List.map_nil, List.mem_singleton] at hb
              exact pos_none e r hr (by rw [z, hb])
            have mem2 : ∀ rr : Option Int, ∀ r ∈ rs ++ [(i, rr)], (r.1.natAbs : Int) ∈ ns := fun rr r hr => by
              rcases List.mem_append.mp hr with z | z
              · exact hs.mem r z
              · rw [List.mem_singleton.mp z]
                exact hm
            walk_at "w"
            by_cases h3 : r1 > 2
            · walk_at "w"
              rename_i g fg r2 H9 px9 r20 r21
              have eg9 := px9.mo _ _ (fun l e => by cases e) (upd_same (H := H8) (a := g) (o := .tup [.int 1, .int 4, .int 5000]))
              have s8 := same_of (Same.refl H8) fg (o := .tup [.int 1, .int 4, .int 5000])
              obtain ⟨z4, za4, zm4⟩ := pick (ns := [1, 4, 5000]) r20 r21
              have z42 : 1 ≤ z4 ∧ z4 ≤ 5000 := by
                simp only [List.mem_cons, List.not_mem_nil, or_false] at zm4
                omega
              have pl9 := px9.pl
              refine Z.w_ixTH eg9 za4 ?_
              walk_at "w"
              rename_i r3 H10 px10 r30 r31 p1 f1 p2 f2
              have fr10 : ∀ b u, b ≠ q → H b = some u → H10 b = some u := fun b u n e => px10.sx _ _ n (px9.sx _ _ n (s8 _ _ (fr8 b u n e)))
              have hs10 := seat_pool hs hp hq fr10
              have rw10 := hs10.rw
              have st10 := hs10.st
              have sB := same_of (same_of (Same.refl H10) f1 (o := .tup [.int i, .int (dep rs : Int), .int r3])) f2 (o := .lst [.ref p1])
              refine ⟨R, p2, us, [.ref p1], rfl, rfl, sB _ _ rw10, upd_same, ?_, fun p3 f3 => ?_⟩
              · rw [hul]
                exact Nat.le_trans (show rs.length + 1 ≤ 100 by omega) (by decide)
              have sC := same_of sB f3 (o := .lst (us ++ [.ref p1]))
              have n12 : p1 ≠ p2 := fun z => by subst z; rw [upd_same] at f2; cases f2
              have e1 : (upd (upd (upd H10 p1 (.tup [.int i, .int (dep rs : Int), .int r3])) p2 (.lst [.ref p1])) p3 (.lst (us ++ [.ref p1]))) p1 = some (.tup [.int i, .int (dep rs : Int), .int r3]) := upd_of f3 (upd_of f2 upd_same)
              have e3 : (upd (upd (upd H10 p1 (.tup [.int i, .int (dep rs : Int), .int r3])) p2 (.lst [.ref p1])) p3 (.lst (us ++ [.ref p1]))) p3 = some (.lst (us ++ [.ref p1])) := upd_same
              have f3H : H p3 = none := fresh_of1 s6 (fresh_px px7 pl6 (fresh_px px8 pl7 (fresh_of1 s8 (fresh_px px9 (pl8.same s8) (fresh_px px10 pl9 (fresh_of1 sB f3))))))
              generalize upd (upd (upd H10 p1 (.tup [.int i, .int (dep rs : Int), .int r3])) p2 (.lst [.ref p1])) p3 (.lst (us ++ [.ref p1])) = H11 at *
              have fr11 : ∀ b u, b ≠ q → H b = some u → H11 b = some u := fun b u n e => sC _ _ (fr10 b u n e)
              have hs11 := seat_pool hs hp hq fr11
              have st11 := hs11.st
              walk_at "w"
              have htm := seat_mid (u0 := .lst [.ref o, .ref N, .ref p3, .int x]) hs hq sep fr11
              obtain ⟨n11, ob11⟩ := htm.ob
              refine w_meth0 ob11 rfl (by rfl) ?_
              walk_at "w"
              refine ⟨o, t, ns, rs, i, r3, rfl, htm, by omega, by omega, fun _ H' tx tr => ?_, fun z => absurd ⟨hm, g2⟩ z⟩
              have hd : dep (rs ++ [(i, some r3)]) = dep rs := dep_snoc _ _
              obtain ⟨k1, k2, k3⟩ := seat_fin hs hp hq sep fr11 (px10.pl.same sC) e3 f3H (hs11.rv.snoc (r := (i, some r3)) (by rw [hd]; exact e1)) (tw2 _) (mem2 _) tx tr
              walk_at "w"
              exact h _ _ _ _ k1 k2 k3 (.inr f3H)
            · walk_at "w"
              rename_i p1 f1 p2 f2
              have sB := same_of (same_of (Same.refl H8) f1 (o := .tup [.int i, .int ((dep rs : Int) + 1), .non])) f2 (o := .lst [.ref p1])
              refine ⟨R, p2, us, [.ref p1], rfl, rfl, sB _ _ rw8, upd_same, ?_, fun p3 f3 => ?_⟩
              · rw [hul]
                exact Nat.le_trans (show rs.length + 1 ≤ 100 by omega) (by decide)
              have sC := same_of sB f3 (o := .lst (us ++ [.ref p1]))
              have e1 : (upd (upd (upd H8 p1 (.tup [.int i, .int ((dep rs : Int) + 1), .non])) p2 (.lst [.ref p1])) p3 (.lst (us ++ [.ref p1]))) p1 = some (.tup [.int i, .int ((dep rs : Int) + 1), .non]) := upd_of f3 (upd_of f2 upd_same)
              have e3 : (upd (upd (upd H8 p1 (.tup [.int i, .int ((dep rs : Int) + 1), .non])) p2 (.lst [.ref p1])) p3 (.lst (us ++ [.ref p1]))) p3 = some (.lst (us ++ [.ref p1])) := upd_same
              have f3H : H p3 = none := fresh_of1 s6 (fresh_px px7 pl6 (fresh_px px8 pl7 (fresh_of1 sB f3)))
              generalize upd (upd (upd H8 p1 (.tup [.int i, .int ((dep rs : Int) + 1), .non])) p2 (.lst [.ref p1])) p3 (.lst (us ++ [.ref p1])) = H11 at *
              have fr11 : ∀ b u, b ≠ q → H b = some u → H11 b = some u := fun b u n e => sC _ _ (fr8 b u n e)
              have hs11 := seat_pool hs hp hq fr11
              have st11 := hs11.st
              walk_at "w"
              have htm := seat_mid (u0 := .lst [.ref o, .ref N, .ref p3, .int x]) hs hq sep fr11
              obtain ⟨n11, ob11⟩ := htm.ob
              refine w_meth0 ob11 rfl (by rfl) ?_
              walk_at "w"
              refine ⟨o, t, ns, rs, i, 0, rfl, htm, by omega, by omega, fun _ H' tx tr => ?_, fun z => absurd ⟨hm, g2⟩ z⟩
              have hd : ((dep (rs ++ [(i, none)]) : Nat) : Int) = (dep rs : Int) + 1 := by rw [dep_snoc]; rfl
              obtain ⟨k1, k2, k3⟩ := seat_fin hs hp hq sep fr11 (px8.pl.same sC) e3 f3H (hs11.rv.snoc (r := (i, none)) (by rw [hd]; exact e1)) (tw2 _) (mem2 _) tx tr
              walk_at "w"
              exact h _ _ _ _ k1 k2 k3 (.inr f3H)
        · rw [decide_eq_false hm]
          walk_at "w"
          rename_i r2 H9 px9 r20 r21
          exact bad ⟨by omega, by omega, fun z => by omega, fun _ z => hm z.1⟩ r2 H9 px9 _ fun H' hQ => hQ
end
end L

namespace L
open PySem PySem.Spec PyProof.Rows L2 Z M MR MT X2
open _root_.SX (S S_len S_cat S_inj)
/-! two seats -/
structure SD where
  Sa : Addr
  o : Addr
  N : Addr
  t : TrO
  x : Int
  ns : List Int
def allD (d : SD) (R : Addr) : List Addr := allS d.Sa d.o d.N R d.t
def mutD (d : SD) : List Addr := d.Sa :: d.o :: tm d.t
theorem mut_all {d : SD} {R b : Addr} (h : b ∈ mutD d) : b ∈ allD d R := by
  rcases List.mem_cons.mp h with e | e
  · rw [e]
    exact List.mem_cons_self
  · exact mem_all (mem_dn e)
def SAt (C : Addr) (H : Hp) (d : SD) (R : Addr) (us : List V) (rs : List TRow) : Prop := SeatAt C H d.Sa d.o d.t d.N R d.x d.ns us rs
/-- one seat within the law: H0 is the heap at the start -/
structure One (C : Addr) (H0 H : Hp) (q L : Addr) (d : SD) (R : Addr) (us : List V) (rs : List TRow) : Prop where
  at' : SAt C H d R us rs
  sep : Sep d.Sa d.o d.N R d.t
  hq : q ∉ allD d R
  hL : L ∉ allD d R
  h0 : ∀ y ∈ allD d R, H0 y = none
def Apart (d : SD) (R : Addr) (e : SD) : Prop := ∀ y ∈ allD d R, y ∉ mutD e
def St2 (C : Addr) (H0 H : Hp) (q L : Addr) (d e : SD) : Prop := ∃ R us rs R2 us2 rs2, One C H0 H q L d R us rs ∧ One C H0 H q L e R2 us2 rs2 ∧ Apart d R e ∧ Apart e R2 d
theorem St2.swap {C : Addr} {H0 H : Hp} {q L : Addr} {d e : SD} (h : St2 C H0 H q L d e) : St2 C H0 H q L e d := by
  obtain ⟨R, us, rs, R2, us2, rs2, a, b, c, f⟩ := h
  exact ⟨R2, us2, rs2, R, us, rs, b, a, f, c⟩
theorem SAt.stay {C : Addr} {H H' : Hp} {d : SD} {R : Addr} {us : List V} {rs : List TRow} (h : SAt C H d R us rs) (s : ∀ b u, b ∈ allD d R → H b = some u → H' b = some u) (rv : RowsV H' us rs) : SAt C H' d R us rs :=
  ⟨h.tr.stay fun b u hb => s b u (mem_all hb), s _ _ (by simp [allD, allS]) h.st, s _ _ (by simp [allD, allS]) h.nd, s _ _ (by simp [allD, allS]) h.rw, rv, h.gn, h.tw, h.mem, h.xo⟩
theorem all_some {C : Addr} {H : Hp} {d : SD} {R : Addr} {us : List V} {rs : List TRow} (h : SAt C H d R us rs) {b : Addr} (hb : b ∈ allD d R) : ∃ u, H b = some u := by
  obtain ⟨⟨n, a⟩, ⟨kn, b', b2⟩, c, dd, e, f, g, ⟨ts, i, i2⟩, j⟩ := h.tr
  simp only [allD, allS, tm, List.mem_cons, List.not_mem_nil, or_false] at hb
  rcases hb with rfl | rfl | rfl | rfl | rfl | rfl | rfl | rfl | rfl | rfl | rfl
  · exact ⟨_, h.st⟩
  · exact ⟨_, h.nd⟩
  · exact ⟨_, h.rw⟩
  · exact ⟨_, a⟩
  · exact ⟨_, b'⟩
  · exact ⟨_, c⟩
  · exact ⟨_, dd⟩
  · exact ⟨_, e⟩
  · exact ⟨_, f⟩
  · exact ⟨_, g⟩
  · exact ⟨_, i⟩
theorem St2.same {C : Addr} {H0 H H' : Hp} {q L : Addr} {d e : SD} (h : St2 C H0 H q L d e) (s : Same H H') : St2 C H0 H' q L d e := by
  obtain ⟨R, us, rs, R2, us2, rs2, a, b, c, f⟩ := h
  exact ⟨R, us, rs, R2, us2, rs2, ⟨SeatAt.same a.at' s, a.sep, a.hq, a.hL, a.h0⟩, ⟨SeatAt.same b.at' s, b.sep, b.hq, b.hL, b.h0⟩, c, f⟩
/-- two seats and a pool m apart from them -/
def St2m (C : Addr) (H0 H : Hp) (q L m : Addr) (d e : SD) : Prop := ∃ R us rs R2 us2 rs2, One C H0 H q L d R us rs ∧ One C H0 H q L e R2 us2 rs2 ∧ Apart d R e ∧ Apart e R2 d ∧ m ∉ allD d R ∧ m ∉ allD e R2
theorem St2m.swap {C : Addr} {H0 H : Hp} {q L m : Addr} {d e : SD} (h : St2m C H0 H q L m d e) : St2m C H0 H q L m e d := by
  obtain ⟨R, us, rs, R2, us2, rs2, a, b, c, f, g1, g2⟩ := h
  exact ⟨R2, us2, rs2, R, us, rs, b, a, f, c, g2, g1⟩
theorem St2.toq {C : Addr} {H0 H : Hp} {q L : Addr} {d e : SD} (h : St2 C H0 H q L d e) : St2m C H0 H q L q d e := by
  obtain ⟨R, us, rs, R2, us2, rs2, a, b, c, f⟩ := h
  exact ⟨R, us, rs, R2, us2, rs2, a, b, c, f, a.hq, b.hq⟩
theorem St2.tom {C : Addr} {H0 H : Hp} {q L m : Addr} {d e : SD} {u : HO} (h : St2 C H0 H q L d e) (hm : H m = none) : St2m C H0 (upd H m u) q L m d e := by
  have h2 := h.same (same_of (Same.refl H) hm (o := u))
  obtain ⟨R, us, rs, R2, us2, rs2, a, b, c, f⟩ := h
  have na : ∀ y, (∃ u, H y = some u) → y ≠ m := fun y ⟨u, hy⟩ => ne_of_none hy hm
  have s := same_of (Same.refl H) hm (o := u)
  exact ⟨R, us, rs, R2, us2, rs2, ⟨SeatAt.same a.at' s, a.sep, a.hq, a.hL, a.h0⟩, ⟨SeatAt.same b.at' s, b.sep, b.hq, b.hL, b.h0⟩, c, f, fun z => na _ (all_some a.at' z) rfl, fun z => na _ (all_some b.at' z) rfl⟩
theorem St2m.px {C : Addr} {H0 H H' : Hp} {q L m : Addr} {d e : SD} (h : St2m C H0 H q L m d e) (hp : PoolAt H m) (p : PX m H H') : St2m C H0 H' q L m d e := by
  obtain ⟨R, us, rs, R2, us2, rs2, a, b, c, f, ma, mb⟩ := h
  have tp : TupS H H' := fun x xs e => p.sx x _ (tup_pool hp e) e
  exact ⟨R, us, rs, R2, us2, rs2, ⟨a.at'.stay (fun x u hx => p.sx x u (fun z => ma (z ▸ hx))) (a.at'.rv.tup tp), a.sep, a.hq, a.hL, a.h0⟩, ⟨b.at'.stay (fun x u hx => p.sx x u (fun z => mb (z ▸ hx))) (b.at'.rv.tup tp), b.sep, b.hq, b.hL, b.h0⟩, c, f, ma, mb⟩
/-- a deed on the first of the two -/
theorem St2.deed {C : Addr} {H0 H H' : Hp} {q L m : Addr} {d e : SD} {R R' R2 : Addr} {us us' us2 : List V} {rs rs' rs2 : List TRow} (a : One C H0 H q L d R us rs) (b : One C H0 H q L e R2 us2 rs2) (c : Apart d R e) (f : Apart e R2 d) (s0 : Same H0 H) (hp : PoolAt H m) (hq : ∃ u, H q = some u) (hL : ∃ u, H L = some u) (ma : m ∉ allD d R) (mb : m ∉ allD e R2)
    (fr : Frm m d.Sa d.o d.t H H') (sa : SAt C H' d R' us' rs') (hR : R' = R ∨ H R' = none) : St2 C H0 H' q L d e := by
  have hR1 : ∀ y, (∃ u, H y = some u) → y ∉ allD d R → y ∉ allD d R' := fun y ⟨u, hy⟩ hn z => by
    rcases hR with e1 | e1
    · rw [e1] at z
      exact hn z
    · simp only [allD, allS, List.mem_cons] at z
      rcases z with z | z | z | z
      · exact hn (by rw [z]; simp [allD, allS])
      · exact hn (by rw [z]; simp [allD, allS])
      · rw [z, e1] at hy
        cases hy
      · refine hn ?_
        simp only [allD, allS, List.mem_cons]
        exact .inr (.inr (.inr z))
  have hRm : ∀ y, (∃ u, H y = some u) → y ≠ R' ∨ R' = R := fun y ⟨u, hy⟩ => by
    rcases hR with e1 | e1
    · exact .inr e1
    · exact .inl (ne_of_none hy e1)
  have sep' : Sep d.Sa d.o d.N R' d.t := by
    refine ⟨a.sep.sa, a.sep.n1, ?_, a.sep.n2, ?_, a.sep.dn⟩
    · rcases hR with e1 | e1
      · rw [e1]
        exact a.sep.r1
      · intro z
        obtain ⟨u, hu⟩ := all_some a.at' (mem_all z)
        rw [hu] at e1
        cases e1
    · rcases hR with e1 | e1
      · rw [e1]
        exact a.sep.r2
      · exact (ne_of_none a.at'.st e1).symm
  have tpE : ∀ x xs, H x = some (.tup xs) → H' x = some (.tup xs) := fun x xs hx => by
    refine fr x _ ?_ hx
    rw [List.mem_cons, not_or]
    exact ⟨tup_pool hp hx, tup_own a.at' hx⟩
  refine ⟨R', us', rs', R2, us2, rs2, ⟨sa, sep', hR1 q hq a.hq, hR1 L hL a.hL, fun y hy => ?_⟩, ⟨b.at'.stay (fun x u hx hu => fr x u ?_ hu) (b.at'.rv.tup tpE), b.sep, b.hq, b.hL, b.h0⟩, fun y hy z => ?_, f⟩
  · rcases hR with e1 | e1
    · rw [e1] at hy
      exact a.h0 y hy
    · by_cases hyR : y = R'
      · rw [hyR]
        exact fresh_of1 s0 e1
      · refine a.h0 y ?_
        simp only [allD, allS, List.mem_cons] at hy ⊢
        rcases hy with z | z | z | z
        · exact .inl z
        · exact .inr (.inl z)
        · exact absurd z hyR
        · exact .inr (.inr (.inr z))
  · rw [List.mem_cons, not_or]
    exact ⟨fun z => mb (z ▸ hx), f x hx⟩
  · by_cases hyR : y = R'
    · rcases hR with e1 | e1
      · exact c y (by rw [e1] at hy; exact hy) z
      · obtain ⟨u, hu⟩ := all_some b.at' (mut_all z)
        rw [hyR, e1] at hu
        cases hu
    · refine c y ?_ z
      simp only [allD, allS, List.mem_cons] at hy ⊢
      rcases hy with z | z | z | z
      · exact .inl z
      · exact .inr (.inl z)
      · exact absurd z hyR
      · exact .inr (.inr (.inr z))
end L

namespace L
open PySem PySem.Spec PyProof.Rows L2 Z M MR MT X2
open _root_.SX (S S_len S_cat S_inj)
section
variable {P : Program} {w : World} {K : PySem.W.Frag} {mg : Str → Option Value} {base : Heap}
theorem ok_initT (T : Txt K mg) : FnOk P w K mg base CX0 1 T.f_Trail_init T.fd_Trail_init ["self", "nodes"] (spMk K T.C_Trail true) := by
  refine T.F_Trail_init.ok sc_Trail_init (fun vs H Q E h => ?_) (fun cdv A outer s H vs Q E hr h => ?_)
  · obtain ⟨o, a, dx, ns, H0, rfl, _⟩ := h
    rfl
  · obtain ⟨o, a, dx, ns, H0, rfl, rfl, h0, hdx, hne, hS, hl, h⟩ := h
    rw [if_pos rfl] at hS
    refine ⟨_, (pss_cons (ps_fld (pv 0) (pe_dc (own := [("node", 2)]) (g := gName 2) (tt := tYes) (by rfl) sc_Trail_init.nd (pi_tup (pv 1)) (blkOk_by (own := [("node", 2)]) (N := N_Trail_init) (sc := defScope s_Trail_init) (by decide +kernel)) (fun _ _ _ _ _ => pg_name (i := 2) sc_Trail_init.nd rfl (Or.inl rfl)) (fun _ _ _ _ _ => pts_nil) (fun _ _ _ _ _ => (pv 2)) (fun _ _ _ _ _ => pe_bl)) rfl)
 (pss_cons (ps_fld (pv 0) (pe_lst pa_nil) rfl)
 (pss_cons (ps_fld (pv 0) (pe_lst pa_nil) rfl)
 (pss_cons (ps_fld (pv 0) (pe_lst pa_nil) rfl)
 (pss_cons (ps_fld (pv 0) pe_dnewK rfl)
 (pss_cons (ps_fld (pv 0) (pe_lst pa_nil) rfl)
 (pss_cons (ps_fld (pv 0) (pe_lst pa_nil) rfl)
 (pss_one (ps_fld (pv 0) pe_int rfl))))))))), ?_⟩
    refine Z.w_start (σ' := [some (.ref o), some (.ref a), none]) rfl ?_
    have s1 : Same H0 (upd (upd H0 dx (.own o)) o (.ins T.C_Trail dx [])) := same_mut (same_of (Same.refl _) hdx) h0
    refine w_seq (w_fld (L.w_dc ?_))
    refine Z.w_iTup (Z.w_var (v := V.ref a) rfl ⟨a, rfl, ⟨_, Evl.ex_t s1 hS⟩, fun D hD => ?_⟩)
    have hDo : D ≠ o := fun e => by subst e; rw [upd_same] at hD; cases hD
    refine L.dc_it (walk_tup (K := K) (a := a) (xs := ns.map V.int)) (fun i H' => ∃ kn, H' = upd (upd (upd H0 dx (.own o)) o (.ins T.C_Trail dx [])) D (.dK kn) ∧ NdI ns i kn) ⟨[], rfl, Nat.le_refl _, fun x => by simp [valV_nil]⟩ ?_ ?_ ?_
    · rintro i H' hi ⟨kn, rfl, _⟩
      exact Evl.ex_t (same_of s1 hD) hS
    · rintro i x H1 H' hi ⟨kn, rfl, hn⟩ ⟨rfl, hx⟩
      rw [List.getElem?_map] at hx
      rw [List.length_map] at hi
      rw [List.getElem?_eq_getElem hi] at hx
      obtain rfl := Option.some.inj hx
      refine Z.w_gname (σ' := [some (.ref o), some (.ref a), some (.int ns[i])]) rfl ⟨rfl, ?_⟩
      walk_at "w"
      refine ⟨kn, Sum.inl ns[i], rfl, upd_same, ?_, _, upd_upd, ndI_next hn (List.getElem?_eq_getElem hi)⟩
      exact Nat.lt_of_le_of_lt hn.1 (Nat.lt_trans (show i < 2000 by omega) (by decide))
    · rintro H' ⟨kn, rfl, hn⟩
      rw [List.length_map] at hn
      have hk : ∀ x : Int, (valV kn (Sum.inl x)).isSome = decide (x ∈ ns) := fun x => by rw [hn.2 x, List.take_length]
      refine Z.w_var (v := V.ref o) rfl ⟨o, T.C_Trail, dx, [], rfl, by rw [upd_ne hDo.symm, upd_same], T.cl_Trail, T.n_Trail__nodes, by decide, ?_⟩
      have hI : InitSt H0 (upd (upd (upd (upd H0 dx (.own o)) o (.ins T.C_Trail dx [])) D (.dK kn)) o (.ins T.C_Trail dx [("_nodes", .ref D)])) o T.C_Trail dx [("_nodes", .ref D)] [(D, .dK kn)] := by
        refine ⟨same_mut (same_of s1 hD) h0, upd_same, fun p hp => ?_, by simp⟩
        obtain rfl := List.mem_singleton.mp hp
        exact ⟨by rw [upd_ne hDo, upd_same], fresh_of1 s1 hD, hDo⟩
      rw [putF_nil]
      generalize upd (upd (upd (upd H0 dx (HO.own o)) o (HO.ins T.C_Trail dx [])) D (HO.dK kn)) o (HO.ins T.C_Trail dx [("_nodes", V.ref D)]) = Hc at *
      dsimp only
      with_reducible refine' ok_init_end T h0 hI hk h ?e1 ?e2 ?e3 ?e4 ?e5 ?e6 ?e7 ?e8
      all_goals rfl
end
end L

namespace L
open PySem PySem.Spec PyProof.Rows L2 Z M MR MT X2
open _root_.SX (S S_len S_cat S_inj)
section
variable {P : Program} {w : World} {K : PySem.W.Frag} {mg : Str → Option Value} {base : Heap}
def spLaw (K : PySem.W.Frag) : Sp := fun vs H Q _ => ∃ (a : Addr) (ns : List Int), vs = [.ref a] ∧ SqL K H a (ns.map V.int) ∧ ns.length ≤ 63 ∧ ∀ H', Q (.bl true) H'
/-- the state within the second loop: H0 the heap at the start -/
structure LS (C : Addr) (H0 H : Hp) (q L m : Addr) (d e : SD) (vs : List V) : Prop where
  sm : Same H0 H
  pq : PoolAt H q
  pm : PoolAt H m
  hq : H0 q = none
  hm : H0 m = none
  mL : m ≠ L
  hL : H0 L = none
  eL : H L = some (.lst vs)
  st : St2m C H0 H q L m d e
theorem LS.px {C : Addr} {H0 H H' : Hp} {q L m : Addr} {d e : SD} {vs : List V} (h : LS C H0 H q L m d e vs) (p : PX m H H') : LS C H0 H' q L m d e vs := by
  refine ⟨fun b u hb => p.sx b u (ne_of_none hb h.hm) (h.sm b u hb), ?_, p.pl, h.hq, h.hm, h.mL, h.hL, p.sx _ _ h.mL.symm h.eL, h.st.px h.pm p⟩
  by_cases z : q = m
  · rw [z]
    exact p.pl
  · obtain ⟨o, h1, h2⟩ := h.pq
    exact ⟨o, p.sx _ _ z h1, h2⟩
theorem LS.same {C : Addr} {H0 H H' : Hp} {q L m : Addr} {d e : SD} {vs : List V} (h : LS C H0 H q L m d e vs) (p : Same H H') : LS C H0 H' q L m d e vs := by
  refine ⟨h.sm.trans p, h.pq.same p, h.pm.same p, h.hq, h.hm, h.mL, h.hL, p _ _ h.eL, ?_⟩
  obtain ⟨R, us, rs, R2, us2, rs2, a, b, c, f, g1, g2⟩ := h.st
  exact ⟨R, us, rs, R2, us2, rs2, ⟨SeatAt.same a.at' p, a.sep, a.hq, a.hL, a.h0⟩, ⟨SeatAt.same b.at' p, b.sep, b.hq, b.hL, b.h0⟩, c, f, g1, g2⟩
theorem LS.swap {C : Addr} {H0 H : Hp} {q L m : Addr} {d e : SD} {vs : List V} (h : LS C H0 H q L m d e vs) : LS C H0 H q L m e d vs := ⟨h.sm, h.pq, h.pm, h.hq, h.hm, h.mL, h.hL, h.eL, h.st.swap⟩
theorem LS.toq {C : Addr} {H0 H : Hp} {q L m : Addr} {d e : SD} {vs : List V} (h : LS C H0 H q L m d e vs) (hn : L ≠ q) : LS C H0 H q L q d e vs := by
  obtain ⟨R, us, rs, R2, us2, rs2, a, b, c, f, g1, g2⟩ := h.st
  exact ⟨h.sm, h.pq, h.pq, h.hq, h.hq, hn.symm, h.hL, h.eL, St2.toq ⟨R, us, rs, R2, us2, rs2, a, b, c, f⟩⟩
/-- the seat at hand -/
theorem LS.seat {C : Addr} {H0 H : Hp} {q L m : Addr} {d e : SD} {vs : List V} (h : LS C H0 H q L m d e vs) : ∃ R us rs, SAt C H d R us rs ∧ m ∉ allD d R := by
  obtain ⟨R, us, rs, R2, us2, rs2, a, b, c, f, g1, g2⟩ := h.st
  exact ⟨R, us, rs, a.at', g1⟩
/-- a deed at hand -/
theorem LS.deed {C : Addr} {H0 H : Hp} {q L m : Addr} {d e : SD} {vs : List V} (h : LS C H0 H q L m d e vs) {Q : VK} {E : XK} (k : ∀ H', LS C H0 H' q L m d e vs → Q (.bl true) H') : spDeed C [.ref m, .ref d.Sa] H Q E := by
  obtain ⟨R, us, rs, R2, us2, rs2, a, b, c, f, g1, g2⟩ := h.st
  refine ⟨m, d.Sa, d.o, d.N, R, d.t, d.x, d.ns, us, rs, rfl, h.pm, g1, a.at', a.sep, fun H' R' us' rs' fr pm' sa hR => k H' ?_⟩
  obtain ⟨oq, hoq, _⟩ := id h.pq
  have s2 := St2.deed a b c f h.sm h.pm ⟨_, hoq⟩ ⟨_, h.eL⟩ g1 g2 fr sa hR
  have nm : ∀ y, H0 y = none → True := fun _ _ => trivial
  have hfr : ∀ y u, y ≠ m → y ∉ allD d R → H y = some u → H' y = some u := fun y u n1 n2 e => fr y u (by
    rw [List.mem_cons, not_or]
    exact ⟨n1, fun z => n2 (mut_all (d := d) z)⟩) e
  refine ⟨fun y u hy => hfr y u (ne_of_none hy h.hm) (fun z => by rw [a.h0 y z] at hy; cases hy) (h.sm y u hy), ?_, pm', h.hq, h.hm, h.mL, h.hL, hfr L _ h.mL.symm a.hL h.eL, ?_⟩
  · by_cases z : q = m
    · rw [z]
      exact pm'
    · obtain ⟨o, h1, h2⟩ := h.pq
      exact ⟨o, hfr q _ z a.hq h1, h2⟩
  · obtain ⟨R3, us3, rs3, R4, us4, rs4, a2, b2, c2, f2⟩ := s2
    obtain ⟨om, hom, _⟩ := id h.pm
    have key : ∀ (d' : SD) (R5 R6 : Addr) (us5 : List V) (rs5 : List TRow), m ∉ allD d' R5 → SAt C H' d' R6 us5 rs5 → H' R6 = some (.lst us5) → (R6 = m → False) → m ∉ allD d' R6 := fun d' R5 R6 us5 rs5 n _ _ nR z => by
      simp only [allD, allS, List.mem_cons] at z n
      rcases z with z | z | z | z
      · exact n (.inl z)
      · exact n (.inr (.inl z))
      · exact nR z.symm
      · exact n (.inr (.inr (.inr z)))
    have nR : ∀ (d' : SD) (R6 : Addr) (us6 : List V) (rs6 : List TRow), SAt C H' d' R6 us6 rs6 → R6 = m → False := fun d' R6 us6 rs6 h6 z => by
      obtain ⟨o, h1, cc, kk, bb, ss, rfl⟩ := pm'
      have h7 := h6.rw
      rw [z, h1] at h7
      have e7 : [V.int cc, V.int kk, V.bl bb, V.int ss] = us6 := by injection h7 with h7; injection h7
      have h8 := h6.rv
      rw [← e7] at h8
      have h9 : 0 < rs6.length := by rw [← h8.1]; exact (show 0 < 4 by decide)
      obtain ⟨p, h10, _⟩ := h8.2 0 _ (List.getElem?_eq_getElem h9)
      cases h10
    exact ⟨R3, us3, rs3, R4, us4, rs4, a2, b2, c2, f2, key d R R3 us3 rs3 g1 a2.at' a2.at'.rw (nR d R3 us3 rs3 a2.at'), key e R2 R4 us4 rs4 g2 b2.at' b2.at'.rw (nR e R4 us4 rs4 b2.at')⟩
/-- a seat that was just made -/
structure New (C : Addr) (H0 H H' : Hp) (q L : Addr) (d : SD) (R : Addr) : Prop where
  one : One C H0 H' q L d R [] []
  fr : ∀ y ∈ allD d R, H y = none
theorem w_make {C : Addr} {sp : Sp} {dvs : List V} {E : XK} {t : TA} {σ : L2.St} {H : Hp} {Q : VK} (h : t σ H fun vs H1 => ∀ x dx, H1 x = none → H1 dx = none → dx ≠ x → sp (.ref x :: (vs ++ dvs)) (upd (upd H1 dx (.own x)) x (.ins C dx [])) (fun v H2 => v = .non ∧ Q (.ref x) H2) E) : tMake C sp dvs E t σ H Q := h
theorem ok_law (T : Txt K mg) : FnOk P w K mg base CX0 11 T.f_law T.fd_law ["_law_script"] (spLaw K) := by
  have G_pool := ok_pool (P := P) (w := w) (base := base) T
  have G_take := ok_take (P := P) (w := w) (base := base) T
  have G_nodes_of := ok_nodes (P := P) (w := w) (base := base) T
  have G_list := ok_list (P := P) (w := w) (base := base) T
  have G_stranger := ok_stranger (P := P) (w := w) (base := base) T
  have G_deed := ok_deed (P := P) (w := w) (base := base) T
  have G_doors := ok_doors (P := P) (w := w) (base := base) T
  have G_told := ok_told (P := P) (w := w) (base := base) T
  have G_Trail_init := ok_initL (P := P) (w := w) (base := base) T
  have G_Trail_initT := ok_initT (P := P) (w := w) (base := base) T
  refine T.F_law.ok sc_law (fun vs H Q E h => ?_) (fun cdv A outer s H vs Q E hr h => ?_)
  · obtain ⟨a, ns, rfl, _⟩ := h
    rfl
  · obtain ⟨a, ns, rfl, hS, hn63, h⟩ := h
    have hn : ns.length ≤ 1000 := by omega
    refine ⟨_, (pss_cons (ps_set (i := 1) sc_law.nd rfl (.inl rfl) (pe_call G_pool (hr.mono (by first | decide | omega)) (by rfl) T.g_pool T.F_pool.kp T.b_pool .nil pass0 (pa_cons (pv 0) (pa_cons pe_int pa_nil))))
 (pss_cons (ps_set (i := 2) sc_law.nd rfl (.inl rfl) (pe_lst pa_nil))
 (pss_cons (ps_for PassesOwn.never rfl (pi_range1 (by rfl) T.m_range (pa_cons pe_int pa_nil)) (pg_name (i := 3) sc_law.nd rfl (.inl rfl)) (pss_cons (ps_set (i := 4) sc_law.nd rfl (.inl rfl) (pe_call G_nodes_of (hr.mono (by first | decide | omega)) (by rfl) T.g_nodes_of T.F_nodes_of.kp T.b_nodes_of .nil pass0 (pa_cons (pv 1) pa_nil)))
 (pss_cons (ps_if (PW.pt (pw_and (pt_cmpR op_eq (pv 3) pe_int (nomark _)) (pw_and1 (pt_cmpR op_eq (pe_call G_take (hr.mono (by first | decide | omega)) (by rfl) T.g_take T.F_take.kp T.b_take .nil pass0 (pa_cons (pv 1) (pa_cons pe_int pa_nil))) pe_int (nomark _))))) (pss_one (ps_set (i := 4) sc_law.nd rfl (.inl rfl) (pe_callTy call_list_of (by rfl) T.m_list (by decide +kernel) (pa_cons (pe_ix ix_list (pe_ix ix_list (pv 2) pe_int (fun _ _ => rfl)) pe_int (fun _ _ => rfl)) pa_nil)))) pss_nil)
 (pss_cons (ps_set (i := 5) sc_law.nd rfl (.inl rfl) (pe_callTy call_list_of (by rfl) T.m_list (by decide +kernel) (pa_cons (pv 4) pa_nil)))
 (pss_cons (ps_set (i := 6) sc_law.nd rfl (.inl rfl) (pe_make T.mk_Trail G_Trail_init (hr.mono (by first | decide | omega)) (by rfl) T.c_Trail T.b_Trail_init .nil pass0 (pa_cons (pv 5) pa_nil)))
 (pss_cons (ps_if (pt_not (pt_val (pe_call G_list (hr.mono (by first | decide | omega)) (by rfl) T.g_list T.F_list.kp T.b_list .nil pass0 (pa_cons (pv 5) (pa_cons (pv 4) pa_nil))))) (pss_one (ps_ret pe_bl)) pss_nil)
 (pss_cons (ps_set (i := 7) sc_law.nd rfl (.inl rfl) (pe_call G_stranger (hr.mono (by first | decide | omega)) (by rfl) T.g_stranger T.F_stranger.kp T.b_stranger .nil pass0 (pa_cons (pv 1) (pa_cons (pv 4) pa_nil))))
 (pss_cons (ps_expr (pe_bm PySem.F.plainAttrs_list PySem.F.slot_list_append PySem.F.type_list_append mt_append (pv 5) (pa_cons (pv 7) pa_nil)))
 (pss_cons (ps_if (pt_cmpR op_gt (pe_callB call_len_seq (by rfl) T.m_len (by decide +kernel) (pa_cons (pv 4) pa_nil)) pe_int (nomark _)) (pss_one (ps_asg (pv 7) (pg_sub (pv 5) pe_int set_list))) pss_nil)
 (pss_cons (ps_if (pt_cmpR op_eq (pe_call G_take (hr.mono (by first | decide | omega)) (by rfl) T.g_take T.F_take.kp T.b_take .nil pass0 (pa_cons (pv 1) (pa_cons pe_int pa_nil))) pe_int (nomark _)) (pss_one (ps_set (i := 6) sc_law.nd rfl (.inl rfl) (pe_make T.mk_Trail G_Trail_initT (hr.mono (by first | decide | omega)) (by rfl) T.c_Trail T.b_Trail_init .nil pass0 (pa_cons (pe_callTy DT.call_tupleZ (by rfl) T.m_tuple (by decide +kernel) (pa_cons (pv 4) pa_nil)) pa_nil)))) pss_nil)
 (pss_one (ps_expr (pe_bm PySem.F.plainAttrs_list PySem.F.slot_list_append PySem.F.type_list_append mt_append (pv 2) (pa_cons (pe_lst (pa_cons (pv 6) (pa_cons (pv 4) (pa_cons (pe_lst pa_nil) (pa_cons (pv 7) pa_nil))))) pa_nil))))))))))))))
 (pss_cons (ps_for PassesOwn.never rfl (pi_range1 (by rfl) T.m_range (pa_cons (pe_callB (call_min2 rfl) (by rfl) T.m_min (by decide +kernel) (pa_cons (pe_op op_add pe_int (pe_call G_take (hr.mono (by first | decide | omega)) (by rfl) T.g_take T.F_take.kp T.b_take .nil pass0 (pa_cons (pv 1) (pa_cons pe_int pa_nil)))) (pa_cons (pe_op op_add pe_int (pe_op op_mul pe_int (pe_callB call_len_seq (by rfl) T.m_len (by decide +kernel) (pa_cons (pv 0) pa_nil)))) pa_nil))) pa_nil)) (pg_name (i := 8) sc_law.nd rfl (.inl rfl)) (pss_cons (ps_set (i := 9) sc_law.nd rfl (.inl rfl) (pv 1))
 (pss_cons (ps_if (pt_cmpR op_lt (pe_op op_add (pv 8) pe_int) (pe_callB call_len_seq (by rfl) T.m_len (by decide +kernel) (pa_cons (pv 0) pa_nil)) (nomark _)) (pss_one (ps_set (i := 9) sc_law.nd rfl (.inl rfl) (pe_call G_pool (hr.mono (by first | decide | omega)) (by rfl) T.g_pool T.F_pool.kp T.b_pool .nil pass0 (pa_cons (pv 0) (pa_cons (pe_op op_add (pv 8) pe_int) pa_nil))))) pss_nil)
 (pss_cons (ps_set (i := 10) sc_law.nd rfl (.inl rfl) (pe_ix ix_list (pv 2) pe_int (fun _ _ => rfl)))
 (pss_cons (ps_if (pt_cmpR op_eq (pe_call G_take (hr.mono (by first | decide | omega)) (by rfl) T.g_take T.F_take.kp T.b_take .nil pass0 (pa_cons (pv 9) (pa_cons pe_int pa_nil))) pe_int (nomark _)) (pss_one (ps_set (i := 10) sc_law.nd rfl (.inl rfl) (pe_ix ix_list (pv 2) pe_int (fun _ _ => rfl)))) pss_nil)
 (pss_cons (ps_set (i := 11) sc_law.nd rfl (.inl rfl) (pe_ix ix_list (pv 10) pe_int (fun _ _ => rfl)))
 (pss_cons (ps_if (pt_cmpR op_eq (pe_call G_take (hr.mono (by first | decide | omega)) (by rfl) T.g_take T.F_take.kp T.b_take .nil pass0 (pa_cons (pv 9) (pa_cons pe_int pa_nil))) pe_int (nomark _)) (pss_one (ps_set (i := 11) sc_law.nd rfl (.inl rfl) (pe_un un_neg (pe_call G_stranger (hr.mono (by first | decide | omega)) (by rfl) T.g_stranger T.F_stranger.kp T.b_stranger .nil pass0 (pa_cons (pv 9) (pa_cons (pe_ix ix_list (pv 10) pe_int (fun _ _ => rfl)) pa_nil)))))) pss_nil)
 (pss_one (ps_if (PW.pt (pw_or (pt_not (pt_val (pe_call G_deed (hr.mono (by first | decide | omega)) (by rfl) T.g_deed T.F_deed.kp T.b_deed .nil pass0 (pa_cons (pv 9) (pa_cons (pv 10) pa_nil))))) (pw_or (pt_not (pt_val (pe_call G_doors (hr.mono (by first | decide | omega)) (by rfl) T.g_doors T.F_doors.kp T.b_doors .nil pass0 (pa_cons (pv 10) (pa_cons (pv 11) (pa_cons (pv 8) pa_nil)))))) (pw_or1 (pt_not (pt_val (pe_call G_told (hr.mono (by first | decide | omega)) (by rfl) T.g_told T.F_told.kp T.b_told .nil pass0 (pa_cons (pv 10) pa_nil)))))))) (pss_one (ps_ret pe_bl)) pss_nil)))))))))
 (pss_one (ps_ret (pe_and (pe_call G_told (hr.mono (by first | decide | omega)) (by rfl) T.g_told T.F_told.kp T.b_told .nil pass0 (pa_cons (pe_ix ix_list (pv 2) pe_int (fun _ _ => rfl)) pa_nil)) (pe_one (pe_call G_told (hr.mono (by first | decide | omega)) (by rfl) T.g_told T.F_told.kp T.b_told .nil pass0 (pa_cons (pe_ix ix_list (pv 2) pe_int (fun _ _ => rfl)) pa_nil)))))))))), ?_⟩
    refine Z.w_start (σ' := [some (.ref a), none, none, none, none, none, none, none, none, none, none, none]) rfl ?_
    walk_at "w"
    refine ⟨a, ns, 0, rfl, hS, hn, by decide, by decide, fun q o fq hpo => ?_⟩
    have p0 : PoolAt (upd H q o) q := ⟨o, upd_same, hpo⟩
    have sq := same_of (Same.refl H) fq (o := o)
    walk_at "w"
    rename_i L fL
    have fL0 := fresh_of1 sq fL
    have nLq : L ≠ q := fun e => by subst e; rw [upd_same] at fL; cases fL
    have p1 : PoolAt (upd (upd H q o) L (.lst [])) q := p0.same (same_of (Same.refl _) fL)
    refine ⟨by decide, by decide, ?_⟩
    refine for_range (fun i σ H' => ∃ (x3 x4 x5 x6 x7 : Option V) (ds : List (SD × Addr)), σ = [some (.ref a), some (.ref q), some (.ref L), x3, x4, x5, x6, x7, none, none, none, none] ∧ Same H H' ∧ PoolAt H' q ∧ H' L = some (.lst (ds.map fun d : SD × Addr => V.ref d.1.Sa)) ∧ ds.length = i ∧ (∀ d ∈ ds, One T.C_Trail H H' q L d.1 d.2 [] []) ∧ ds.Pairwise fun d e => Apart d.1 d.2 e.1 ∧ Apart e.1 e.2 d.1) ?_ ?_ ?_
    · exact ⟨none, none, none, none, none, [], rfl, same_of sq fL, p1, upd_same, rfl, fun d hd => by simp at hd, .nil⟩
    · rintro i σ H1 hi ⟨x3, x4, x5, x6, x7, ds, rfl, sm, hp, hL, hlen, hds, hpw⟩
      have hi2 : i < 2 := hi
      walk_at "w"
      refine use_nodes hp fun pN ms H2 px2 fN eN hg => ?_
      repeat' (first | with_reducible refine seqIf (fun σ' H3 => ∃ N ms, σ' = [some (.ref a), some (.ref q), some (.ref L), some (.int (0 + (i : Int))), some (.ref N), x5, x6, x7, none, none, none, none] ∧ PX q H1 H3 ∧ H1 N = none ∧ H3 N = some (.lst (ms.map V.int)) ∧ GoodN ms) (fun Rk kk => ?_) ?_ | walk_at "w1")
      · have npq : pN ≠ q := fun e => by
          subst e
          obtain ⟨o', h1, _⟩ := hp
          rw [h1] at fN
          cases fN
        by_cases e1 : i = 1
        · subst e1
          obtain ⟨d0, rfl⟩ : ∃ d0, ds = [d0] := by
            match ds, hlen with
            | [d0], _ => exact ⟨d0, rfl⟩
          have o0 := hds d0 List.mem_cons_self
          have nS : d0.1.Sa ≠ q := fun e => o0.hq (by rw [← e]; simp [allD, allS])
          have nN : d0.1.N ≠ q := fun e => o0.hq (by rw [← e]; simp [allD, allS])
          have pl2 := px2.pl
          walk_at "w"
          rename_i r3 H3 px3 r30 r31
          have px13 := px2.trans px3
          have hL3 := px13.sx _ _ nLq hL
          have hst3 := px13.sx _ _ nS o0.at'.st
          have hnd3 := px13.sx _ _ nN o0.at'.nd
          rw [List.map_cons, List.map_nil] at hL3
          walk_at "wi"
          · walk_at "w"
            intro l fl
            walk_at "w"
            exact kk _ _ ⟨l, _, rfl, px13.new fl, fresh_px px13 hp fl, upd_same, o0.at'.gn⟩
          · walk_at "w"
            exact kk _ _ ⟨pN, ms, rfl, px13, fN, px3.sx _ _ npq eN, hg⟩
        · walk_at "w"
          exact kk _ _ ⟨pN, ms, rfl, px2, fN, eN, hg⟩
      · rintro σ' H3 ⟨N, ms, rfl, px3, fN3, eN3, hg3⟩
        walk_at "w"
        intro pG fG
        have nNG : N ≠ pG := ne_of_none eN3 fG
        have nqq : ∀ y, H1 y = none → y ≠ q := fun y hy e => by
          subst e
          obtain ⟨o', h1, _⟩ := hp
          rw [h1] at hy
          cases hy
        have fG1 := fresh_px px3 hp fG
        have px4 := px3.new fG (o := .lst (ms.map V.int))
        have eN4 : (upd H3 pG (.lst (ms.map V.int))) N = some (.lst (ms.map V.int)) := upd_of fG eN3
        have eG4 : (upd H3 pG (.lst (ms.map V.int))) pG = some (.lst (ms.map V.int)) := upd_same
        generalize upd H3 pG (.lst (ms.map V.int)) = H4 at *
        have hml : ms.length ≤ 30 := hg3.2.2
        walk_at "w"
        refine w_make ?_
        walk_at "w"
        intro ob dx fo fdx nxo
        refine ⟨ob, pG, dx, ms, H4, rfl, rfl, fo, fdx, nxo, .inl (.inl eG4), by omega, fun t H5 s5 ft tr => ⟨rfl, ?_⟩⟩
        have eN5 := s5 _ _ eN4
        have eG5 := s5 _ _ eG4
        have px5 := px4.same s5
        have pl5 := px5.pl
        have fr4 : ∀ y ∈ ob :: t.dn :: tm t, H4 y = none := fun y hy => by
          rcases List.mem_cons.mp hy with e | e
          · rw [e]
            exact fo
          · exact ft y (by simp only [tm, List.mem_cons, List.not_mem_nil, or_false] at e ⊢; exact e)
        walk_at "w"
        refine use_list eG5 eN5 (fun u hu => ?_) (by rw [lst_len]; omega) ?_
        · obtain ⟨y, _, rfl⟩ := List.mem_map.mp hu
          exact .inr (.inr ⟨y, rfl⟩)
        walk_at "w"
        refine use_stranger pl5 eN5 (nqq _ fN3) hg3 fun x H6 px6 xn x1 x2 => ?_
        have px6' := px5.trans px6
        have eG6 := px6.sx _ _ (nqq _ fG1) eG5
        have eN6 := px6.sx _ _ (nqq _ fN3) eN5
        have tr6 : TrAt T.C_Trail H6 ob t ms [] := tr.stay fun b u hb e => px6.sx _ _ (nqq _ (fresh_px px4 hp (fr4 b hb))) e
        walk_at "w"
        refine Z.w_bm ?_
        walk_at "w"
        refine ⟨.inl ⟨rfl, _, .inl (.inl eG6)⟩, ?_⟩
        walk_at "w"
        refine ⟨pG, _, _, rfl, rfl, eG6, ?_, ?_⟩
        · rw [lst_len]
          exact Nat.lt_of_le_of_lt hml (by decide)
        have fin : ∀ gs, ∃ H7, H7 = upd H6 pG (.lst gs) := fun gs => ⟨_, rfl⟩
        repeat' (first | with_reducible refine seqIf (fun σ' H7 => σ' = [some (.ref a), some (.ref q), some (.ref L), some (.int (0 + (i : Int))), some (.ref N), some (.ref pG), some (.ref ob), some (.int x), none, none, none, none] ∧ ∃ gs, H7 = upd H6 pG (.lst gs)) (fun Rk kk => ?_) ?_ | walk_at "w1")
        · walk_at "wi"
          · walk_at "w"
            refine ⟨pG, _, 0, 0, rfl, rfl, upd_same, ?_, ?_⟩
            · rw [List.length_append, List.length_singleton]
              unfold ixN
              rw [if_pos (by decide), if_pos (by omega)]
              rfl
            · exact kk _ _ ⟨rfl, _, upd_upd⟩
          · walk_at "w"
            exact kk _ _ ⟨rfl, _, rfl⟩
        · rintro σ' H7 ⟨rfl, gs, rfl⟩
          have px7 : PX q H1 (upd H6 pG (.lst gs)) := by
            refine ⟨px6'.mo.own fG1, ?_, fun b u n e => by rw [upd_ne (ne_of_none e fG1)]; exact px6'.sx b u n e⟩
            obtain ⟨o', h1, h2⟩ := px6'.pl
            exact ⟨o', by rw [upd_ne (nqq _ fG1).symm]; exact h1, h2⟩
          have eN7 : (upd H6 pG (.lst gs)) N = some (.lst (ms.map V.int)) := by rw [upd_ne nNG]; exact eN6
          have tr7 : TrAt T.C_Trail (upd H6 pG (.lst gs)) ob t ms [] := tr6.stay fun b u hb e => by
            rw [upd_ne (ne_of_none eG4 (fr4 b hb)).symm]
            exact e
          have hfr7 : ∀ y ∈ ob :: t.dn :: tm t, H1 y = none ∧ y ≠ N := fun y hy => ⟨fresh_px px4 hp (fr4 y hy), (ne_of_none eN4 (fr4 y hy)).symm⟩
          generalize upd H6 pG (.lst gs) = H7 at *
          have pl7 := px7.pl
          repeat' (first | with_reducible refine seqIf (fun σ' H8 => ∃ o2 t2, σ' = [some (.ref a), some (.ref q), some (.ref L), some (.int (0 + (i : Int))), some (.ref N), some (.ref pG), some (.ref o2), some (.int x), none, none, none, none] ∧ PX q H1 H8 ∧ TrAt T.C_Trail H8 o2 t2 ms [] ∧ H8 N = some (.lst (ms.map V.int)) ∧ ∀ y ∈ o2 :: t2.dn :: tm t2, H1 y = none ∧ y ≠ N) (fun Rk kk => ?_) ?_ | walk_at "w1")
          · rename_i r8 H8 px8 r80 r81
            have px18 := px7.trans px8
            have eN8 := px8.sx _ _ (nqq _ fN3) eN7
            have tr8 : TrAt T.C_Trail H8 ob t ms [] := tr7.stay fun b u hb e => px8.sx _ _ (nqq _ (hfr7 b hb).1) e
            walk_at "wi"
            · walk_at "w"
              refine w_make ?_
              walk_at "w"
              refine ⟨N, _, rfl, .inl (.inl eN8), fun tp ot ft bt => ?_⟩
              have s9 := same_of (Same.refl H8) ft (o := .frz ot (.tup (ms.map V.int)))
              have eT9 : (upd H8 tp (.frz ot (.tup (ms.map V.int)))) tp = some (.frz ot (.tup (ms.map V.int))) := upd_same
              have eN9 := s9 _ _ eN8
              have px9 := px18.same s9
              generalize upd H8 tp (.frz ot (.tup (ms.map V.int))) = H9 at *
              walk_at "w"
              intro o2 dx2 fo2 fdx2 nxo2
              refine ⟨o2, tp, dx2, ms, H9, rfl, rfl, fo2, fdx2, nxo2, .inl (.inr ⟨_, eT9⟩), by omega, fun t2 HA sA fA trA => ⟨rfl, ?_⟩⟩
              walk_at "w"
              refine kk _ _ ⟨o2, t2, rfl, px9.same sA, trA, sA _ _ eN9, fun y hy => ?_⟩
              have fy : H9 y = none := by
                rcases List.mem_cons.mp hy with e | e
                · rw [e]
                  exact fo2
                · exact fA y (by simp only [tm, List.mem_cons, List.not_mem_nil, or_false] at e ⊢; exact e)
              exact ⟨fresh_px px9 hp fy, (ne_of_none eN9 fy).symm⟩
            · walk_at "w"
              exact kk _ _ ⟨ob, t, rfl, px18, tr8, eN8, hfr7⟩
          · rintro σ' H8 ⟨o2, t2, rfl, px8, tr8, eN8, hfr8⟩
            have eL8 := px8.sx _ _ nLq hL
            walk_at "w"
            refine Z.w_bm ?_
            walk_at "w"
            refine ⟨.inl ⟨rfl, _, .inl (.inl eL8)⟩, ?_⟩
            walk_at "w"
            rename_i R fR Sa fS
            have sB := same_of (same_of (Same.refl H8) fR (o := .lst [])) fS (o := .lst [.ref o2, .ref N, .ref R, .int x])
            have eLB := sB _ _ eL8
            have nSR : Sa ≠ R := fun e => by subst e; rw [upd_same] at fS; cases fS
            have fS8 : H8 Sa = none := by rw [upd_ne nSR] at fS; exact fS
            have fS1 := fresh_px px8 hp fS8
            have fR1 := fresh_px px8 hp fR
            refine ⟨L, _, _, rfl, rfl, eLB, ?_, ?_⟩
            · rw [List.length_map]
              exact Nat.lt_of_lt_of_le (show ds.length < 2 by omega) (by decide)
            have eSB : (upd (upd H8 R (.lst [])) Sa (.lst [.ref o2, .ref N, .ref R, .int x])) Sa = some (.lst [.ref o2, .ref N, .ref R, .int x]) := upd_same
            have eRB : (upd (upd H8 R (.lst [])) Sa (.lst [.ref o2, .ref N, .ref R, .int x])) R = some (.lst []) := by rw [upd_ne nSR.symm, upd_same]
            have pxB := px8.same sB
            have fSH8 := fS8
            generalize upd (upd H8 R (.lst [])) Sa (.lst [.ref o2, .ref N, .ref R, .int x]) = HB at *
            have hsome8 : ∀ y ∈ o2 :: t2.dn :: tm t2, ∃ u, H8 y = some u := by
              obtain ⟨⟨n, a⟩, ⟨kn, b', b2⟩, c, dd, e, f, g, ⟨ts, i, i2⟩, j⟩ := tr8
              intro y hy
              simp only [tm, List.mem_cons, List.not_mem_nil, or_false] at hy
              rcases hy with rfl | rfl | rfl | rfl | rfl | rfl | rfl | rfl
              · exact ⟨_, a⟩
              · exact ⟨_, b'⟩
              · exact ⟨_, c⟩
              · exact ⟨_, dd⟩
              · exact ⟨_, e⟩
              · exact ⟨_, f⟩
              · exact ⟨_, g⟩
              · exact ⟨_, i⟩
            have nin : ∀ y, H8 y = none → y ∉ o2 :: t2.dn :: tm t2 := fun y hy z => by
              obtain ⟨u, hu⟩ := hsome8 y z
              rw [hy] at hu
              cases hu
            have sep : Sep Sa o2 N R t2 := by
              refine ⟨nin _ fS8, fun z => (hfr8 N z).2 rfl, nin _ fR, fun e => ?_, nSR.symm, ?_⟩
              · subst e
                rw [eN8] at fS8
                cases fS8
              · obtain ⟨⟨n, a⟩, ⟨kn, b', b2⟩, c, dd, e, f, g, ⟨ts, i, i2⟩, j⟩ := tr8
                intro z
                simp only [tm, List.mem_cons, List.not_mem_nil, or_false] at z
                rcases z with z | z | z | z | z | z | z
                · rw [← z, b'] at a; cases a
                · rw [← z, b'] at c; cases c
                · rw [← z, b'] at dd; cases dd
                · rw [← z, b'] at e; cases e
                · exact j.2 z
                · rw [← z, b'] at g; cases g
                · rw [← z, b'] at i; cases i
            have hall : ∀ y ∈ allS Sa o2 N R t2, H1 y = none := fun y hy => by
              simp only [allS, List.mem_cons] at hy
              rcases hy with z | z | z | z
              · rw [z]; exact fS1
              · rw [z]; exact fN3
              · rw [z]; exact fR1
              · exact (hfr8 y (by simp only [List.mem_cons]; exact z)).1
            have nL : ∀ y, H1 y = none → y ≠ L := fun y hy e => by rw [e, hL] at hy; cases hy
            have frL : ∀ b u, b ≠ q → b ≠ L → H1 b = some u → (upd HB L (.lst (ds.map (fun d : SD × Addr => V.ref d.1.Sa) ++ [.ref Sa]))) b = some u := fun b u n1 n2 e => by
              rw [upd_ne n2]
              exact pxB.sx b u n1 e
            refine ⟨_, _, _, _, _, ds ++ [(⟨Sa, o2, N, t2, x, ms⟩, R)], rfl, ?_, ?_, ?_, ?_, ?_, ?_⟩
            · exact fun b u e => frL b u (ne_of_none e fq) (ne_of_none e fL0) (sm b u e)
            · obtain ⟨o', h1, h2⟩ := pxB.pl
              exact ⟨o', by rw [upd_ne nLq.symm]; exact h1, h2⟩
            · rw [upd_same, List.map_append]
              rfl
            · rw [List.length_append, hlen]
              rfl
            · intro d hd
              rcases List.mem_append.mp hd with z | z
              · have o1 := hds d z
                exact ⟨o1.at'.stay (fun b u hb e => frL b u (fun z => o1.hq (z ▸ hb)) (fun z => o1.hL (z ▸ hb)) e) .nil, o1.sep, o1.hq, o1.hL, o1.h0⟩
              · rw [List.mem_singleton.mp z]
                have hns : ∀ y ∈ o2 :: t2.dn :: tm t2, y ≠ L := fun y hy => nL y (hfr8 y hy).1
                have trB : TrAt T.C_Trail (upd HB L (.lst (ds.map (fun d : SD × Addr => V.ref d.1.Sa) ++ [.ref Sa]))) o2 t2 ms [] := tr8.stay fun b u hb e => by
                  rw [upd_ne (hns b hb)]
                  exact sB _ _ e
                refine ⟨⟨trB, ?_, ?_, ?_, .nil, hg3, List.nodup_nil, fun r hr => by simp at hr, xn, x1, x2⟩, sep, fun z => nqq _ (hall q z) rfl, fun z => nL _ (hall L z) rfl, fun y hy => fresh_of1 sm (hall y hy)⟩
                · rw [upd_ne (nL _ fS1)]
                  exact eSB
                · rw [upd_ne (nL _ fN3)]
                  exact sB _ _ eN8
                · rw [upd_ne (nL _ fR1)]
                  exact eRB
            · refine List.pairwise_append.mpr ⟨hpw, List.pairwise_singleton _ _, fun d hd e he => ?_⟩
              rw [List.mem_singleton.mp he]
              have o1 := hds d hd
              refine ⟨fun y hy z => ?_, fun y hy z => ?_⟩
              · obtain ⟨u, hu⟩ := all_some o1.at' hy
                have := hall y (mut_all (d := ⟨Sa, o2, N, t2, x, ms⟩) (R := R) z)
                rw [hu] at this
                cases this
              · obtain ⟨u, hu⟩ := all_some o1.at' (mut_all (R := d.2) z)
                have := hall y hy
                rw [hu] at this
                cases this
    · rintro σ' H1 ⟨x3, x4, x5, x6, x7, ds, rfl, sm, hp, hL, hlen, hds, hpw⟩
      obtain ⟨d0, d1, rfl⟩ : ∃ d0 d1, ds = [d0, d1] := by
        match ds, hlen with
        | [d0, d1], _ => exact ⟨d0, d1, rfl⟩
      have o0 := hds d0 (by simp)
      have o1 := hds d1 (by simp)
      have ap := (List.pairwise_cons.mp hpw).1 d1 (by simp)
      have st : St2 T.C_Trail H H1 q L d0.1 d1.1 := ⟨d0.2, [], [], d1.2, [], [], o0, o1, ap.1, ap.2⟩
      have ls1 : LS T.C_Trail H H1 q L q d0.1 d1.1 [.ref d0.1.Sa, .ref d1.1.Sa] := ⟨sm, hp, hp, fq, fq, nLq.symm, fL0, hL, st.toq⟩
      clear st ap hpw hds hlen o0 o1
      have hS1 := Evl.ex_l sm hS
      walk_at "w"
      rename_i r2 H2 px2 r20 r21
      have ls2 := ls1.px px2
      have hS2 := Evl.ex_l ls2.sm hS
      have hnl : (ns.map V.int).length = ns.length := lst_len
      walk_at "w"
      refine ⟨by split <;> omega, by split <;> omega, ?_⟩
      refine for_range (fun i σ H' => ∃ x8 x9 x10 x11 : Option V, σ = [some (.ref a), some (.ref q), some (.ref L), x3, x4, x5, x6, x7, x8, x9, x10, x11] ∧ LS T.C_Trail H H' q L q d0.1 d1.1 [.ref d0.1.Sa, .ref d1.1.Sa]) ?_ ?_ ?_
      · exact ⟨none, none, none, none, rfl, ls2⟩
      · rintro i σ H3 hi ⟨x8, x9, x10, x11, rfl, ls3⟩
        have hi24 : i < 24 := by
          revert hi
          split <;> omega
        have hS3 := Evl.ex_l ls3.sm hS
        repeat' (first | with_reducible refine seqIf (fun σ' H4 => ∃ m, σ' = [some (.ref a), some (.ref q), some (.ref L), x3, x4, x5, x6, x7, some (.int (0 + (i : Int))), some (.ref m), x10, x11] ∧ LS T.C_Trail H H4 q L m d0.1 d1.1 [.ref d0.1.Sa, .ref d1.1.Sa]) (fun Rk kk => ?_) ?_ | walk_at "w1")
        · walk_at "wi"
          · walk_at "w"
            refine ⟨a, ns, _, rfl, hS3, hn, by omega, by omega, fun m o2 fm hpo2 => ?_⟩
            have s4 := same_of (Same.refl H3) fm (o := o2)
            walk_at "w"
            have fm0 := fresh_of1 ls3.sm fm
            have stm : St2 T.C_Trail H H3 q L d0.1 d1.1 := by
              obtain ⟨R, us, rs, R2, us2, rs2, a, b, c, f, g1, g2⟩ := ls3.st
              exact ⟨R, us, rs, R2, us2, rs2, a, b, c, f⟩
            exact kk _ _ ⟨m, rfl, ls3.sm.trans s4, ls3.pq.same s4, ⟨o2, upd_same, hpo2⟩, fq, fm0, (ne_of_none ls3.eL fm).symm, fL0, s4 _ _ ls3.eL, stm.tom fm⟩
          · walk_at "w"
            exact kk _ _ ⟨q, rfl, ls3⟩
        · rintro σ' H4 ⟨m, rfl, ls4⟩
          have eL4 := ls4.eL
          repeat' (first | with_reducible refine seqIf (fun σ' H5 => ∃ d e, σ' = [some (.ref a), some (.ref q), some (.ref L), x3, x4, x5, x6, x7, some (.int (0 + (i : Int))), some (.ref m), some (.ref d.Sa), x11] ∧ LS T.C_Trail H H5 q L m d e [.ref d0.1.Sa, .ref d1.1.Sa] ∧ ∀ H', LS T.C_Trail H H' q L m d e [.ref d0.1.Sa, .ref d1.1.Sa] → LS T.C_Trail H H' q L m d0.1 d1.1 [.ref d0.1.Sa, .ref d1.1.Sa]) (fun Rk kk => ?_) ?_ | walk_at "w1")
          · refine use_takeP ls4.pm (by decide) (by decide) fun r5 H5 px5 r50 r51 => ?_
            have ls5 := ls4.px px5
            have eL5 := ls5.eL
            walk_at "w"
            walk_at "wi"
            · walk_at "w"
              exact kk _ _ ⟨d1.1, d0.1, rfl, ls5.swap, fun _ h => h.swap⟩
            · walk_at "w"
              exact kk _ _ ⟨d0.1, d1.1, rfl, ls5, fun _ h => h⟩
          · rintro σ' H5 ⟨d, e, rfl, ls5, back⟩
            obtain ⟨R, us, rs, sd, hm⟩ := ls5.seat
            have hst5 := sd.st
            repeat' (first | with_reducible refine seqIf (fun σ' H6 => ∃ z, σ' = [some (.ref a), some (.ref q), some (.ref L), x3, x4, x5, x6, x7, some (.int (0 + (i : Int))), some (.ref m), some (.ref d.Sa), some (.int z)] ∧ LS T.C_Trail H H6 q L m d e [.ref d0.1.Sa, .ref d1.1.Sa] ∧ (z.natAbs : Int) ∉ d.ns ∧ z.natAbs < 2000000) (fun Rk kk => ?_) ?_ | walk_at "w1")
            · refine use_takeP ls5.pm (by decide) (by decide) fun r6 H6 px6 r60 r61 => ?_
              have ls6 := ls5.px px6
              have nSm : d.Sa ≠ m := fun e => hm (by rw [← e]; simp [allD, allS])
              have nNm : d.N ≠ m := fun e => hm (by rw [← e]; simp [allD, allS])
              have hst6 := px6.sx _ _ nSm hst5
              have hnd6 := px6.sx _ _ nNm sd.nd
              have pm6 := ls6.pm
              walk_at "w"
              walk_at "wi"
              · walk_at "w"
                refine use_stranger pm6 hnd6 nNm sd.gn fun z H7 px7 zn z1 z2 => ?_
                walk_at "w"
                exact kk _ _ ⟨-z, rfl, ls6.px px7, by rw [Int.natAbs_neg, show (z.natAbs : Int) = z by omega]; exact zn, by omega⟩
              · walk_at "w"
                obtain ⟨x1, x2, x3⟩ := sd.xo
                exact kk _ _ ⟨d.x, rfl, ls6, by rw [show (d.x.natAbs : Int) = d.x by omega]; exact x1, by omega⟩
            · rintro σ' H6 ⟨z, rfl, ls6, z1, z2⟩
              walk_at "w"
              refine ls6.deed fun H7 ls7 => ?_
              obtain ⟨R7, us7, rs7, sd7, _⟩ := ls7.seat
              walk_at "w"
              refine ⟨d.Sa, d.o, d.N, R7, d.t, d.x, d.ns, us7, rs7, z, _, rfl, sd7, z1, z2, by omega, by omega, fun H8 s8 => ?_⟩
              walk_at "w"
              refine ⟨d.Sa, d.o, d.N, R7, d.t, d.x, d.ns, us7, rs7, rfl, SeatAt.same sd7 s8, fun H9 s9 => ?_⟩
              walk_at "w"
              exact ⟨_, _, _, _, rfl, (back _ (ls7.same (s8.trans s9))).toq nLq⟩
      · rintro σ H3 ⟨x8, x9, x10, x11, rfl, ls3⟩
        obtain ⟨R, us, rs, sd, _⟩ := ls3.seat
        obtain ⟨R2, us2, rs2, sd2, _⟩ := ls3.swap.seat
        have eL3 := ls3.eL
        walk_at "w"
        refine ⟨d0.1.Sa, d0.1.o, d0.1.N, R, d0.1.t, d0.1.x, d0.1.ns, us, rs, rfl, sd, fun H4 s4 => ?_⟩
        have eL4 := s4 _ _ eL3
        walk_at "w"
        refine ⟨d1.1.Sa, d1.1.o, d1.1.N, R2, d1.1.t, d1.1.x, d1.1.ns, us2, rs2, rfl, SeatAt.same sd2 s4, fun H5 s5 => ?_⟩
        walk_at "w"
        exact h _
end
end L

namespace X0
end X0
namespace L
open PySem PySem.Spec PyProof.Rows L2 Z X0
theorem all_mk {l : PySem.W.OpenLaw} {w : World} {K : PySem.W.Frag} {h : Heap} {mg : Str → Option Value} {fa : Addr} (X : K.In h) (G : h.Ns mainGlobals mg) (hfa : mg "law" = some (.ref fa))
    {f_pool : Addr} {od_pool an_pool : Option Addr} {sl_pool : Array (Option Value)} {oc_pool kV_pool dc_pool pm_pool cd_pool ct_pool  : Value}
    {f_take : Addr} {od_take an_take : Option Addr} {sl_take : Array (Option Value)} {oc_take kV_take dc_take pm_take cd_take ct_take  : Value}
    {f_whole : Addr} {od_whole an_whole : Option Addr} {sl_whole : Array (Option Value)} {oc_whole kV_whole dc_whole pm_whole cd_whole ct_whole  : Value}
    {f_alike : Addr} {od_alike an_alike : Option Addr} {sl_alike : Array (Option Value)} {oc_alike kV_alike dc_alike pm_alike cd_alike ct_alike  : Value}
    {f_list : Addr} {od_list an_list : Option Addr} {sl_list : Array (Option Value)} {oc_list kV_list dc_list pm_list cd_list ct_list  : Value}
    {f_nodes_of : Addr} {od_nodes_of an_nodes_of : Option Addr} {sl_nodes_of : Array (Option Value)} {oc_nodes_of kV_nodes_of dc_nodes_of pm_nodes_of cd_nodes_of ct_nodes_of  : Value}
    {f_stranger : Addr} {od_stranger an_stranger : Option Addr} {sl_stranger : Array (Option Value)} {oc_stranger kV_stranger dc_stranger pm_stranger cd_stranger ct_stranger  : Value}
    {f_place : Addr} {od_place an_place : Option Addr} {sl_place : Array (Option Value)} {oc_place kV_place dc_place pm_place cd_place ct_place  : Value}
    {f_literal : Addr} {od_literal an_literal : Option Addr} {sl_literal : Array (Option Value)} {oc_literal kV_literal dc_literal pm_literal cd_literal ct_literal  : Value}
    {f_ask : Addr} {od_ask an_ask : Option Addr} {sl_ask : Array (Option Value)} {oc_ask kV_ask dc_ask pm_ask cd_ask ct_ask  : Value}
    {f_refused : Addr} {od_refused an_refused : Option Addr} {sl_refused : Array (Option Value)} {oc_refused kV_refused dc_refused pm_refused cd_refused ct_refused  : Value}
    {f_refused_base : Addr} {od_refused_base an_refused_base : Option Addr} {sl_refused_base : Array (Option Value)} {oc_refused_base kV_refused_base dc_refused_base pm_refused_base cd_refused_base ct_refused_base  : Value}
    {f_refuses : Addr} {od_refuses an_refuses : Option Addr} {sl_refuses : Array (Option Value)} {oc_refuses kV_refuses dc_refuses pm_refuses cd_refuses ct_refuses  : Value}
    {f_literal_told : Addr} {od_literal_told an_literal_told : Option Addr} {sl_literal_told : Array (Option Value)} {oc_literal_told kV_literal_told dc_literal_told pm_literal_told cd_literal_told ct_literal_told  : Value}
    {f_told : Addr} {od_told an_told : Option Addr} {sl_told : Array (Option Value)} {oc_told kV_told dc_told pm_told cd_told ct_told  : Value}
    {f_doors : Addr} {od_doors an_doors : Option Addr} {sl_doors : Array (Option Value)} {oc_doors kV_doors dc_doors pm_doors cd_doors ct_doors  : Value}
    {f_deed : Addr} {od_deed an_deed : Option Addr} {sl_deed : Array (Option Value)} {oc_deed kV_deed dc_deed pm_deed cd_deed ct_deed  : Value}
    {f_law : Addr} {od_law an_law : Option Addr} {sl_law : Array (Option Value)} {oc_law kV_law dc_law pm_law cd_law ct_law  : Value}
    {C_BadLiteral : Addr}
    {C_PaperError : Addr}
    {C_BadModel : Addr}
    {C_BadName : Addr}
    {C_BadNode : Addr}
    {C_BadRatio : Addr}
    {C_BadSort : Addr}
    {C_BadText : Addr}
    {C_NameTaken : Addr}
    {C_NoAnswer : Addr}
    {C_NoLevel : Addr}
    {C_UnknownName : Addr}
    {nm_BadLiteral q_BadLiteral : Str} {N_BadLiteral : Addr} {bs_BadLiteral : List Value} {sn_BadLiteral : List Str} {sub_BadLiteral : List Value} {ab_BadLiteral : Bool} {col_BadLiteral : Option Bool} {dd_BadLiteral : Option Addr} {m0_BadLiteral m1_BadLiteral m2_BadLiteral m3_BadLiteral m5_BadLiteral : Option Value}
    {C_Trail : Addr}
    {f_BadLiteral_init : Addr} {od_BadLiteral_init an_BadLiteral_init : Option Addr} {sl_BadLiteral_init : Array (Option Value)} {oc_BadLiteral_init kV_BadLiteral_init dc_BadLiteral_init pm_BadLiteral_init cd_BadLiteral_init ct_BadLiteral_init : Value}
    {f_Trail_init : Addr} {od_Trail_init an_Trail_init : Option Addr} {sl_Trail_init : Array (Option Value)} {oc_Trail_init kV_Trail_init dc_Trail_init pm_Trail_init cd_Trail_init ct_Trail_init : Value}
    {f_Trail_choose : Addr} {od_Trail_choose an_Trail_choose : Option Addr} {sl_Trail_choose : Array (Option Value)} {oc_Trail_choose kV_Trail_choose dc_Trail_choose pm_Trail_choose cd_Trail_choose ct_Trail_choose : Value}
    {f_Trail_force : Addr} {od_Trail_force an_Trail_force : Option Addr} {sl_Trail_force : Array (Option Value)} {oc_Trail_force kV_Trail_force dc_Trail_force pm_Trail_force cd_Trail_force ct_Trail_force : Value}
    {f_Trail_back : Addr} {od_Trail_back an_Trail_back : Option Addr} {sl_Trail_back : Array (Option Value)} {oc_Trail_back kV_Trail_back dc_Trail_back pm_Trail_back cd_Trail_back ct_Trail_back : Value}
    {f_Trail_value : Addr} {od_Trail_value an_Trail_value : Option Addr} {sl_Trail_value : Array (Option Value)} {oc_Trail_value kV_Trail_value dc_Trail_value pm_Trail_value cd_Trail_value ct_Trail_value : Value}
    {f_Trail_level_of : Addr} {od_Trail_level_of an_Trail_level_of : Option Addr} {sl_Trail_level_of : Array (Option Value)} {oc_Trail_level_of kV_Trail_level_of dc_Trail_level_of pm_Trail_level_of cd_Trail_level_of ct_Trail_level_of : Value}
    {f_Trail_reason_of : Addr} {od_Trail_reason_of an_Trail_reason_of : Option Addr} {sl_Trail_reason_of : Array (Option Value)} {oc_Trail_reason_of kV_Trail_reason_of dc_Trail_reason_of pm_Trail_reason_of cd_Trail_reason_of ct_Trail_reason_of : Value}
    {f_Trail_place_of : Addr} {od_Trail_place_of an_Trail_place_of : Option Addr} {sl_Trail_place_of : Array (Option Value)} {oc_Trail_place_of kV_Trail_place_of dc_Trail_place_of pm_Trail_place_of cd_Trail_place_of ct_Trail_place_of : Value}
    {f_Trail_literals : Addr} {od_Trail_literals an_Trail_literals : Option Addr} {sl_Trail_literals : Array (Option Value)} {oc_Trail_literals kV_Trail_literals dc_Trail_literals pm_Trail_literals cd_Trail_literals ct_Trail_literals : Value}
    {f_Trail_sizes : Addr} {od_Trail_sizes an_Trail_sizes : Option Addr} {sl_Trail_sizes : Array (Option Value)} {oc_Trail_sizes kV_Trail_sizes dc_Trail_sizes pm_Trail_sizes cd_Trail_sizes ct_Trail_sizes : Value}
    {f_Trail_depth : Addr} {od_Trail_depth an_Trail_depth : Option Addr} {sl_Trail_depth : Array (Option Value)} {oc_Trail_depth kV_Trail_depth dc_Trail_depth pm_Trail_depth cd_Trail_depth ct_Trail_depth : Value}
    {f_Trail_contains : Addr} {od_Trail_contains an_Trail_contains : Option Addr} {sl_Trail_contains : Array (Option Value)} {oc_Trail_contains kV_Trail_contains dc_Trail_contains pm_Trail_contains cd_Trail_contains ct_Trail_contains : Value}
    {f_Trail_put : Addr} {od_Trail_put an_Trail_put : Option Addr} {sl_Trail_put : Array (Option Value)} {oc_Trail_put kV_Trail_put dc_Trail_put pm_Trail_put cd_Trail_put ct_Trail_put : Value}
    {f_Trail_refuse_unknown : Addr} {od_Trail_refuse_unknown an_Trail_refuse_unknown : Option Addr} {sl_Trail_refuse_unknown : Array (Option Value)} {oc_Trail_refuse_unknown kV_Trail_refuse_unknown dc_Trail_refuse_unknown pm_Trail_refuse_unknown cd_Trail_refuse_unknown ct_Trail_refuse_unknown : Value}
    {f_Trail_refuse_unless_open : Addr} {od_Trail_refuse_unless_open an_Trail_refuse_unless_open : Option Addr} {sl_Trail_refuse_unless_open : Array (Option Value)} {oc_Trail_refuse_unless_open kV_Trail_refuse_unless_open dc_Trail_refuse_unless_open pm_Trail_refuse_unless_open cd_Trail_refuse_unless_open ct_Trail_refuse_unless_open : Value}
    (a_pool : PySem.W.nsIn K mainGlobals "_law_pool" = some (some (.ref f_pool)))
    (l_pool : K.lookup f_pool = some ⟨oc_pool, od_pool, .func (PySem.W.fnOf "_law_pool" "_law_pool" (defArgs s_pool) (defBody s_pool) (defScope s_pool) .none kV_pool dc_pool pm_pool an_pool cd_pool ct_pool), sl_pool⟩)
    (c_pool : PySem.W.codeIn K cd_pool "_law_pool" = true)
    (k_pool : PySem.W.keepIn K (.ref f_pool) = true)
    (a_take : PySem.W.nsIn K mainGlobals "_law_take" = some (some (.ref f_take)))
    (l_take : K.lookup f_take = some ⟨oc_take, od_take, .func (PySem.W.fnOf "_law_take" "_law_take" (defArgs s_take) (defBody s_take) (defScope s_take) .none kV_take dc_take pm_take an_take cd_take ct_take), sl_take⟩)
    (c_take : PySem.W.codeIn K cd_take "_law_take" = true)
    (k_take : PySem.W.keepIn K (.ref f_take) = true)
    (a_whole : PySem.W.nsIn K mainGlobals "_law_whole" = some (some (.ref f_whole)))
    (l_whole : K.lookup f_whole = some ⟨oc_whole, od_whole, .func (PySem.W.fnOf "_law_whole" "_law_whole" (defArgs s_whole) (defBody s_whole) (defScope s_whole) .none kV_whole dc_whole pm_whole an_whole cd_whole ct_whole), sl_whole⟩)
    (c_whole : PySem.W.codeIn K cd_whole "_law_whole" = true)
    (k_whole : PySem.W.keepIn K (.ref f_whole) = true)
    (a_alike : PySem.W.nsIn K mainGlobals "_law_alike" = some (some (.ref f_alike)))
    (l_alike : K.lookup f_alike = some ⟨oc_alike, od_alike, .func (PySem.W.fnOf "_law_alike" "_law_alike" (defArgs s_alike) (defBody s_alike) (defScope s_alike) .none kV_alike dc_alike pm_alike an_alike cd_alike ct_alike), sl_alike⟩)
    (c_alike : PySem.W.codeIn K cd_alike "_law_alike" = true)
    (k_alike : PySem.W.keepIn K (.ref f_alike) = true)
    (a_list : PySem.W.nsIn K mainGlobals "_law_list" = some (some (.ref f_list)))
    (l_list : K.lookup f_list = some ⟨oc_list, od_list, .func (PySem.W.fnOf "_law_list" "_law_list" (defArgs s_list) (defBody s_list) (defScope s_list) .none kV_list dc_list pm_list an_list cd_list ct_list), sl_list⟩)
    (c_list : PySem.W.codeIn K cd_list "_law_list" = true)
    (k_list : PySem.W.keepIn K (.ref f_list) = true)
    (a_nodes_of : PySem.W.nsIn K mainGlobals "_law_nodes_of" = some (some (.ref f_nodes_of)))
    (l_nodes_of : K.lookup f_nodes_of = some ⟨oc_nodes_of, od_nodes_of, .func (PySem.W.fnOf "_law_nodes_of" "_law_nodes_of" (defArgs s_nodes_of) (defBody s_nodes_of) (defScope s_nodes_of) .none kV_nodes_of dc_nodes_of pm_nodes_of an_nodes_of cd_nodes_of ct_nodes_of), sl_nodes_of⟩)
    (c_nodes_of : PySem.W.codeIn K cd_nodes_of "_law_nodes_of" = true)
    (k_nodes_of : PySem.W.keepIn K (.ref f_nodes_of) = true)
    (a_stranger : PySem.W.nsIn K mainGlobals "_law_stranger" = some (some (.ref f_stranger)))
    (l_stranger : K.lookup f_stranger = some ⟨oc_stranger, od_stranger, .func (PySem.W.fnOf "_law_stranger" "_law_stranger" (defArgs s_stranger) (defBody s_stranger) (defScope s_stranger) .none kV_stranger dc_stranger pm_stranger an_stranger cd_stranger ct_stranger), sl_stranger⟩)
    (c_stranger : PySem.W.codeIn K cd_stranger "_law_stranger" = true)
    (k_stranger : PySem.W.keepIn K (.ref f_stranger) = true)
    (a_place : PySem.W.nsIn K mainGlobals "_law_place" = some (some (.ref f_place)))
    (l_place : K.lookup f_place = some ⟨oc_place, od_place, .func (PySem.W.fnOf "_law_place" "_law_place" (defArgs s_place) (defBody s_place) (defScope s_place) .none kV_place dc_place pm_place an_place cd_place ct_place), sl_place⟩)
    (c_place : PySem.W.codeIn K cd_place "_law_place" = true)
    (k_place : PySem.W.keepIn K (.ref f_place) = true)
    (a_literal : PySem.W.nsIn K mainGlobals "_law_literal" = some (some (.ref f_literal)))
    (l_literal : K.lookup f_literal = some ⟨oc_literal, od_literal, .func (PySem.W.fnOf "_law_literal" "_law_literal" (defArgs s_literal) (defBody s_literal) (defScope s_literal) .none kV_literal dc_literal pm_literal an_literal cd_literal ct_literal), sl_literal⟩)
    (c_literal : PySem.W.codeIn K cd_literal "_law_literal" = true)
    (k_literal : PySem.W.keepIn K (.ref f_literal) = true)
    (a_ask : PySem.W.nsIn K mainGlobals "_law_ask" = some (some (.ref f_ask)))
    (l_ask : K.lookup f_ask = some ⟨oc_ask, od_ask, .func (PySem.W.fnOf "_law_ask" "_law_ask" (defArgs s_ask) (defBody s_ask) (defScope s_ask) .none kV_ask dc_ask pm_ask an_ask cd_ask ct_ask), sl_ask⟩)
    (c_ask : PySem.W.codeIn K cd_ask "_law_ask" = true)
    (k_ask : PySem.W.keepIn K (.ref f_ask) = true)
    (a_refused : PySem.W.nsIn K mainGlobals "_law_refused" = some (some (.ref f_refused)))
    (l_refused : K.lookup f_refused = some ⟨oc_refused, od_refused, .func (PySem.W.fnOf "_law_refused" "_law_refused" (defArgs s_refused) (defBody s_refused) (defScope s_refused) .none kV_refused dc_refused pm_refused an_refused cd_refused ct_refused), sl_refused⟩)
    (c_refused : PySem.W.codeIn K cd_refused "_law_refused" = true)
    (k_refused : PySem.W.keepIn K (.ref f_refused) = true)
    (a_refused_base : PySem.W.nsIn K mainGlobals "_law_refused_base" = some (some (.ref f_refused_base)))
    (l_refused_base : K.lookup f_refused_base = some ⟨oc_refused_base, od_refused_base, .func (PySem.W.fnOf "_law_refused_base" "_law_refused_base" (defArgs s_refused_base) (defBody s_refused_base) (defScope s_refused_base) .none kV_refused_base dc_refused_base pm_refused_base an_refused_base cd_refused_base ct_refused_base), sl_refused_base⟩)
    (c_refused_base : PySem.W.codeIn K cd_refused_base "_law_refused_base" = true)
    (k_refused_base : PySem.W.keepIn K (.ref f_refused_base) = true)
    (a_refuses : PySem.W.nsIn K mainGlobals "_law_refuses" = some (some (.ref f_refuses)))
    (l_refuses : K.lookup f_refuses = some ⟨oc_refuses, od_refuses, .func (PySem.W.fnOf "_law_refuses" "_law_refuses" (defArgs s_refuses) (defBody s_refuses) (defScope s_refuses) .none kV_refuses dc_refuses pm_refuses an_refuses cd_refuses ct_refuses), sl_refuses⟩)
    (c_refuses : PySem.W.codeIn K cd_refuses "_law_refuses" = true)
    (k_refuses : PySem.W.keepIn K (.ref f_refuses) = true)
    (a_literal_told : PySem.W.nsIn K mainGlobals "_law_literal_told" = some (some (.ref f_literal_told)))
    (l_literal_told : K.lookup f_literal_told = some ⟨oc_literal_told, od_literal_told, .func (PySem.W.fnOf "_law_literal_told" "_law_literal_told" (defArgs s_literal_told) (defBody s_literal_told) (defScope s_literal_told) .none kV_literal_told dc_literal_told pm_literal_told an_literal_told cd_literal_told ct_literal_told), sl_literal_told⟩)
    (c_literal_told : PySem.W.codeIn K cd_literal_told "_law_literal_told" = true)
    (k_literal_told : PySem.W.keepIn K (.ref f_literal_told) = true)
    (a_told : PySem.W.nsIn K mainGlobals "_law_told" = some (some (.ref f_told)))
    (l_told : K.lookup f_told = some ⟨oc_told, od_told, .func (PySem.W.fnOf "_law_told" "_law_told" (defArgs s_told) (defBody s_told) (defScope s_told) .none kV_told dc_told pm_told an_told cd_told ct_told), sl_told⟩)
    (c_told : PySem.W.codeIn K cd_told "_law_told" = true)
    (k_told : PySem.W.keepIn K (.ref f_told) = true)
    (a_doors : PySem.W.nsIn K mainGlobals "_law_doors" = some (some (.ref f_doors)))
    (l_doors : K.lookup f_doors = some ⟨oc_doors, od_doors, .func (PySem.W.fnOf "_law_doors" "_law_doors" (defArgs s_doors) (defBody s_doors) (defScope s_doors) .none kV_doors dc_doors pm_doors an_doors cd_doors ct_doors), sl_doors⟩)
    (c_doors : PySem.W.codeIn K cd_doors "_law_doors" = true)
    (k_doors : PySem.W.keepIn K (.ref f_doors) = true)
    (a_deed : PySem.W.nsIn K mainGlobals "_law_deed" = some (some (.ref f_deed)))
    (l_deed : K.lookup f_deed = some ⟨oc_deed, od_deed, .func (PySem.W.fnOf "_law_deed" "_law_deed" (defArgs s_deed) (defBody s_deed) (defScope s_deed) .none kV_deed dc_deed pm_deed an_deed cd_deed ct_deed), sl_deed⟩)
    (c_deed : PySem.W.codeIn K cd_deed "_law_deed" = true)
    (k_deed : PySem.W.keepIn K (.ref f_deed) = true)
    (a_law : PySem.W.nsIn K mainGlobals "law" = some (some (.ref f_law)))
    (l_law : K.lookup f_law = some ⟨oc_law, od_law, .func (PySem.W.fnOf "law" "law" (defArgs s_law) (defBody s_law) (defScope s_law) .none kV_law dc_law pm_law an_law cd_law ct_law), sl_law⟩)
    (c_law : PySem.W.codeIn K cd_law "law" = true)
    (k_law : PySem.W.keepIn K (.ref f_law) = true)
    (m_len : PySem.W.nsIn K mainGlobals "len" = some none)
    (m_int : PySem.W.nsIn K mainGlobals "int" = some none)
    (m_abs : PySem.W.nsIn K mainGlobals "abs" = some none)
    (m_min : PySem.W.nsIn K mainGlobals "min" = some none)
    (m_max : PySem.W.nsIn K mainGlobals "max" = some none)
    (m_isinstance : PySem.W.nsIn K mainGlobals "isinstance" = some none)
    (m_range : PySem.W.nsIn K mainGlobals "range" = some none)
    (m_bool : PySem.W.nsIn K mainGlobals "bool" = some none)
    (m_list : PySem.W.nsIn K mainGlobals "list" = some none)
    (m_tuple : PySem.W.nsIn K mainGlobals "tuple" = some none)
    (m_reversed : PySem.W.nsIn K mainGlobals "reversed" = some none)
    (m_ValueError : PySem.W.nsIn K mainGlobals "ValueError" = some none)
    (n_BadLiteral : PySem.W.nsIn K mainGlobals "BadLiteral" = some (some (.ref C_BadLiteral)))
    (n_PaperError : PySem.W.nsIn K mainGlobals "PaperError" = some (some (.ref C_PaperError)))
    (n_BadModel : PySem.W.nsIn K mainGlobals "BadModel" = some (some (.ref C_BadModel)))
    (n_BadName : PySem.W.nsIn K mainGlobals "BadName" = some (some (.ref C_BadName)))
    (n_BadNode : PySem.W.nsIn K mainGlobals "BadNode" = some (some (.ref C_BadNode)))
    (n_BadRatio : PySem.W.nsIn K mainGlobals "BadRatio" = some (some (.ref C_BadRatio)))
    (n_BadSort : PySem.W.nsIn K mainGlobals "BadSort" = some (some (.ref C_BadSort)))
    (n_BadText : PySem.W.nsIn K mainGlobals "BadText" = some (some (.ref C_BadText)))
    (n_NameTaken : PySem.W.nsIn K mainGlobals "NameTaken" = some (some (.ref C_NameTaken)))
    (n_NoAnswer : PySem.W.nsIn K mainGlobals "NoAnswer" = some (some (.ref C_NoAnswer)))
    (n_NoLevel : PySem.W.nsIn K mainGlobals "NoLevel" = some (some (.ref C_NoLevel)))
    (n_UnknownName : PySem.W.nsIn K mainGlobals "UnknownName" = some (some (.ref C_UnknownName)))
    (n_Trail : PySem.W.nsIn K mainGlobals "Trail" = some (some (.ref C_Trail)))
    (a_BadLiteral_init : PySem.W.findIn K (.ref C_BadLiteral) "__init__" = some (some (.ref f_BadLiteral_init)))
    (i_BadLiteral_init : PySem.W.typeIn K (.ref f_BadLiteral_init) = some (.type "function"))
    (l_BadLiteral_init : K.lookup f_BadLiteral_init = some ⟨oc_BadLiteral_init, od_BadLiteral_init, .func (PySem.W.fnOf "__init__" "BadLiteral.__init__" (defArgs s_BadLiteral_init) (defBody s_BadLiteral_init) (defScope s_BadLiteral_init) .none kV_BadLiteral_init dc_BadLiteral_init pm_BadLiteral_init an_BadLiteral_init cd_BadLiteral_init ct_BadLiteral_init), sl_BadLiteral_init⟩)
    (c_BadLiteral_init : PySem.W.codeIn K cd_BadLiteral_init "BadLiteral.__init__" = true)
    (k_BadLiteral_init : PySem.W.keepIn K (.ref f_BadLiteral_init) = true)
    (a_Trail_init : PySem.W.findIn K (.ref C_Trail) "__init__" = some (some (.ref f_Trail_init)))
    (i_Trail_init : PySem.W.typeIn K (.ref f_Trail_init) = some (.type "function"))
    (l_Trail_init : K.lookup f_Trail_init = some ⟨oc_Trail_init, od_Trail_init, .func (PySem.W.fnOf "__init__" "Trail.__init__" (defArgs s_Trail_init) (defBody s_Trail_init) (defScope s_Trail_init) .none kV_Trail_init dc_Trail_init pm_Trail_init an_Trail_init cd_Trail_init ct_Trail_init), sl_Trail_init⟩)
    (c_Trail_init : PySem.W.codeIn K cd_Trail_init "Trail.__init__" = true)
    (k_Trail_init : PySem.W.keepIn K (.ref f_Trail_init) = true)
    (a_Trail_choose : PySem.W.findIn K (.ref C_Trail) "choose" = some (some (.ref f_Trail_choose)))
    (i_Trail_choose : PySem.W.typeIn K (.ref f_Trail_choose) = some (.type "function"))
    (l_Trail_choose : K.lookup f_Trail_choose = some ⟨oc_Trail_choose, od_Trail_choose, .func (PySem.W.fnOf "choose" "Trail.choose" (defArgs s_Trail_choose) (defBody s_Trail_choose) (defScope s_Trail_choose) .none kV_Trail_choose dc_Trail_choose pm_Trail_choose an_Trail_choose cd_Trail_choose ct_Trail_choose), sl_Trail_choose⟩)
    (c_Trail_choose : PySem.W.codeIn K cd_Trail_choose "Trail.choose" = true)
    (k_Trail_choose : PySem.W.keepIn K (.ref f_Trail_choose) = true)
    (a_Trail_force : PySem.W.findIn K (.ref C_Trail) "force" = some (some (.ref f_Trail_force)))
    (i_Trail_force : PySem.W.typeIn K (.ref f_Trail_force) = some (.type "function"))
    (l_Trail_force : K.lookup f_Trail_force = some ⟨oc_Trail_force, od_Trail_force, .func (PySem.W.fnOf "force" "Trail.force" (defArgs s_Trail_force) (defBody s_Trail_force) (defScope s_Trail_force) .none kV_Trail_force dc_Trail_force pm_Trail_force an_Trail_force cd_Trail_force ct_Trail_force), sl_Trail_force⟩)
    (c_Trail_force : PySem.W.codeIn K cd_Trail_force "Trail.force" = true)
    (k_Trail_force : PySem.W.keepIn K (.ref f_Trail_force) = true)
    (a_Trail_back : PySem.W.findIn K (.ref C_Trail) "back" = some (some (.ref f_Trail_back)))
    (i_Trail_back : PySem.W.typeIn K (.ref f_Trail_back) = some (.type "function"))
    (l_Trail_back : K.lookup f_Trail_back = some ⟨oc_Trail_back, od_Trail_back, .func (PySem.W.fnOf "back" "Trail.back" (defArgs s_Trail_back) (defBody s_Trail_back) (defScope s_Trail_back) .none kV_Trail_back dc_Trail_back pm_Trail_back an_Trail_back cd_Trail_back ct_Trail_back), sl_Trail_back⟩)
    (c_Trail_back : PySem.W.codeIn K cd_Trail_back "Trail.back" = true)
    (k_Trail_back : PySem.W.keepIn K (.ref f_Trail_back) = true)
    (a_Trail_value : PySem.W.findIn K (.ref C_Trail) "value" = some (some (.ref f_Trail_value)))
    (i_Trail_value : PySem.W.typeIn K (.ref f_Trail_value) = some (.type "function"))
    (l_Trail_value : K.lookup f_Trail_value = some ⟨oc_Trail_value, od_Trail_value, .func (PySem.W.fnOf "value" "Trail.value" (defArgs s_Trail_value) (defBody s_Trail_value) (defScope s_Trail_value) .none kV_Trail_value dc_Trail_value pm_Trail_value an_Trail_value cd_Trail_value ct_Trail_value), sl_Trail_value⟩)
    (c_Trail_value : PySem.W.codeIn K cd_Trail_value "Trail.value" = true)
    (k_Trail_value : PySem.W.keepIn K (.ref f_Trail_value) = true)
    (a_Trail_level_of : PySem.W.findIn K (.ref C_Trail) "level_of" = some (some (.ref f_Trail_level_of)))
    (i_Trail_level_of : PySem.W.typeIn K (.ref f_Trail_level_of) = some (.type "function"))
    (l_Trail_level_of : K.lookup f_Trail_level_of = some ⟨oc_Trail_level_of, od_Trail_level_of, .func (PySem.W.fnOf "level_of" "Trail.level_of" (defArgs s_Trail_level_of) (defBody s_Trail_level_of) (defScope s_Trail_level_of) .none kV_Trail_level_of dc_Trail_level_of pm_Trail_level_of an_Trail_level_of cd_Trail_level_of ct_Trail_level_of), sl_Trail_level_of⟩)
    (c_Trail_level_of : PySem.W.codeIn K cd_Trail_level_of "Trail.level_of" = true)
    (k_Trail_level_of : PySem.W.keepIn K (.ref f_Trail_level_of) = true)
    (a_Trail_reason_of : PySem.W.findIn K (.ref C_Trail) "reason_of" = some (some (.ref f_Trail_reason_of)))
    (i_Trail_reason_of : PySem.W.typeIn K (.ref f_Trail_reason_of) = some (.type "function"))
    (l_Trail_reason_of : K.lookup f_Trail_reason_of = some ⟨oc_Trail_reason_of, od_Trail_reason_of, .func (PySem.W.fnOf "reason_of" "Trail.reason_of" (defArgs s_Trail_reason_of) (defBody s_Trail_reason_of) (defScope s_Trail_reason_of) .none kV_Trail_reason_of dc_Trail_reason_of pm_Trail_reason_of an_Trail_reason_of cd_Trail_reason_of ct_Trail_reason_of), sl_Trail_reason_of⟩)
    (c_Trail_reason_of : PySem.W.codeIn K cd_Trail_reason_of "Trail.reason_of" = true)
    (k_Trail_reason_of : PySem.W.keepIn K (.ref f_Trail_reason_of) = true)
    (a_Trail_place_of : PySem.W.findIn K (.ref C_Trail) "place_of" = some (some (.ref f_Trail_place_of)))
    (i_Trail_place_of : PySem.W.typeIn K (.ref f_Trail_place_of) = some (.type "function"))
    (l_Trail_place_of : K.lookup f_Trail_place_of = some ⟨oc_Trail_place_of, od_Trail_place_of, .func (PySem.W.fnOf "place_of" "Trail.place_of" (defArgs s_Trail_place_of) (defBody s_Trail_place_of) (defScope s_Trail_place_of) .none kV_Trail_place_of dc_Trail_place_of pm_Trail_place_of an_Trail_place_of cd_Trail_place_of ct_Trail_place_of), sl_Trail_place_of⟩)
    (c_Trail_place_of : PySem.W.codeIn K cd_Trail_place_of "Trail.place_of" = true)
    (k_Trail_place_of : PySem.W.keepIn K (.ref f_Trail_place_of) = true)
    (a_Trail_literals : PySem.W.findIn K (.ref C_Trail) "literals" = some (some (.ref f_Trail_literals)))
    (i_Trail_literals : PySem.W.typeIn K (.ref f_Trail_literals) = some (.type "function"))
    (l_Trail_literals : K.lookup f_Trail_literals = some ⟨oc_Trail_literals, od_Trail_literals, .func (PySem.W.fnOf "literals" "Trail.literals" (defArgs s_Trail_literals) (defBody s_Trail_literals) (defScope s_Trail_literals) .none kV_Trail_literals dc_Trail_literals pm_Trail_literals an_Trail_literals cd_Trail_literals ct_Trail_literals), sl_Trail_literals⟩)
    (c_Trail_literals : PySem.W.codeIn K cd_Trail_literals "Trail.literals" = true)
    (k_Trail_literals : PySem.W.keepIn K (.ref f_Trail_literals) = true)
    (a_Trail_sizes : PySem.W.findIn K (.ref C_Trail) "sizes" = some (some (.ref f_Trail_sizes)))
    (i_Trail_sizes : PySem.W.typeIn K (.ref f_Trail_sizes) = some (.type "function"))
    (l_Trail_sizes : K.lookup f_Trail_sizes = some ⟨oc_Trail_sizes, od_Trail_sizes, .func (PySem.W.fnOf "sizes" "Trail.sizes" (defArgs s_Trail_sizes) (defBody s_Trail_sizes) (defScope s_Trail_sizes) .none kV_Trail_sizes dc_Trail_sizes pm_Trail_sizes an_Trail_sizes cd_Trail_sizes ct_Trail_sizes), sl_Trail_sizes⟩)
    (c_Trail_sizes : PySem.W.codeIn K cd_Trail_sizes "Trail.sizes" = true)
    (k_Trail_sizes : PySem.W.keepIn K (.ref f_Trail_sizes) = true)
    (a_Trail_depth : PySem.W.findIn K (.ref C_Trail) "depth" = some (some (.ref f_Trail_depth)))
    (i_Trail_depth : PySem.W.typeIn K (.ref f_Trail_depth) = some (.type "function"))
    (l_Trail_depth : K.lookup f_Trail_depth = some ⟨oc_Trail_depth, od_Trail_depth, .func (PySem.W.fnOf "depth" "Trail.depth" (defArgs s_Trail_depth) (defBody s_Trail_depth) (defScope s_Trail_depth) .none kV_Trail_depth dc_Trail_depth pm_Trail_depth an_Trail_depth cd_Trail_depth ct_Trail_depth), sl_Trail_depth⟩)
    (c_Trail_depth : PySem.W.codeIn K cd_Trail_depth "Trail.depth" = true)
    (k_Trail_depth : PySem.W.keepIn K (.ref f_Trail_depth) = true)
    (a_Trail_contains : PySem.W.findIn K (.ref C_Trail) "__contains__" = some (some (.ref f_Trail_contains)))
    (i_Trail_contains : PySem.W.typeIn K (.ref f_Trail_contains) = some (.type "function"))
    (l_Trail_contains : K.lookup f_Trail_contains = some ⟨oc_Trail_contains, od_Trail_contains, .func (PySem.W.fnOf "__contains__" "Trail.__contains__" (defArgs s_Trail_contains) (defBody s_Trail_contains) (defScope s_Trail_contains) .none kV_Trail_contains dc_Trail_contains pm_Trail_contains an_Trail_contains cd_Trail_contains ct_Trail_contains), sl_Trail_contains⟩)
    (c_Trail_contains : PySem.W.codeIn K cd_Trail_contains "Trail.__contains__" = true)
    (k_Trail_contains : PySem.W.keepIn K (.ref f_Trail_contains) = true)
    (a_Trail_put : PySem.W.findIn K (.ref C_Trail) "_put" = some (some (.ref f_Trail_put)))
    (i_Trail_put : PySem.W.typeIn K (.ref f_Trail_put) = some (.type "function"))
    (l_Trail_put : K.lookup f_Trail_put = some ⟨oc_Trail_put, od_Trail_put, .func (PySem.W.fnOf "_put" "Trail._put" (defArgs s_Trail_put) (defBody s_Trail_put) (defScope s_Trail_put) .none kV_Trail_put dc_Trail_put pm_Trail_put an_Trail_put cd_Trail_put ct_Trail_put), sl_Trail_put⟩)
    (c_Trail_put : PySem.W.codeIn K cd_Trail_put "Trail._put" = true)
    (k_Trail_put : PySem.W.keepIn K (.ref f_Trail_put) = true)
    (a_Trail_refuse_unknown : PySem.W.findIn K (.ref C_Trail) "_refuse_unknown" = some (some (.ref f_Trail_refuse_unknown)))
    (i_Trail_refuse_unknown : PySem.W.typeIn K (.ref f_Trail_refuse_unknown) = some (.type "function"))
    (l_Trail_refuse_unknown : K.lookup f_Trail_refuse_unknown = some ⟨oc_Trail_refuse_unknown, od_Trail_refuse_unknown, .func (PySem.W.fnOf "_refuse_unknown" "Trail._refuse_unknown" (defArgs s_Trail_refuse_unknown) (defBody s_Trail_refuse_unknown) (defScope s_Trail_refuse_unknown) .none kV_Trail_refuse_unknown dc_Trail_refuse_unknown pm_Trail_refuse_unknown an_Trail_refuse_unknown cd_Trail_refuse_unknown ct_Trail_refuse_unknown), sl_Trail_refuse_unknown⟩)
    (c_Trail_refuse_unknown : PySem.W.codeIn K cd_Trail_refuse_unknown "Trail._refuse_unknown" = true)
    (k_Trail_refuse_unknown : PySem.W.keepIn K (.ref f_Trail_refuse_unknown) = true)
    (a_Trail_refuse_unless_open : PySem.W.findIn K (.ref C_Trail) "_refuse_unless_open" = some (some (.ref f_Trail_refuse_unless_open)))
    (i_Trail_refuse_unless_open : PySem.W.typeIn K (.ref f_Trail_refuse_unless_open) = some (.type "function"))
    (l_Trail_refuse_unless_open : K.lookup f_Trail_refuse_unless_open = some ⟨oc_Trail_refuse_unless_open, od_Trail_refuse_unless_open, .func (PySem.W.fnOf "_refuse_unless_open" "Trail._refuse_unless_open" (defArgs s_Trail_refuse_unless_open) (defBody s_Trail_refuse_unless_open) (defScope s_Trail_refuse_unless_open) .none kV_Trail_refuse_unless_open dc_Trail_refuse_unless_open pm_Trail_refuse_unless_open an_Trail_refuse_unless_open cd_Trail_refuse_unless_open ct_Trail_refuse_unless_open), sl_Trail_refuse_unless_open⟩)
    (c_Trail_refuse_unless_open : PySem.W.codeIn K cd_Trail_refuse_unless_open "Trail._refuse_unless_open" = true)
    (k_Trail_refuse_unless_open : PySem.W.keepIn K (.ref f_Trail_refuse_unless_open) = true)
    (pg_Trail : PySem.W.plainGet K C_Trail Str.empty = true)
    (hd_Trail : PySem.W.hasDictIn K C_Trail = true)
    (po_Trail : PySem.W.plainOver K C_Trail = true)
    (sa_Trail : PySem.W.findIn K (.ref C_Trail) "__setattr__" = some (some (.builtin "object.__setattr__")))
    (mk_Trail : PySem.W.makesIn K C_Trail = true)
    (kc_Trail : PySem.W.keepIn K (.ref C_Trail) = true)
    (nf_Trail__nodes : PySem.W.findIn K (.ref C_Trail) "_nodes" = some none)
    (nf_Trail__literals : PySem.W.findIn K (.ref C_Trail) "_literals" = some none)
    (nf_Trail__levels : PySem.W.findIn K (.ref C_Trail) "_levels" = some none)
    (nf_Trail__reasons : PySem.W.findIn K (.ref C_Trail) "_reasons" = some none)
    (nf_Trail__places : PySem.W.findIn K (.ref C_Trail) "_places" = some none)
    (nf_Trail__starts : PySem.W.findIn K (.ref C_Trail) "_starts" = some none)
    (nf_Trail__tickets : PySem.W.findIn K (.ref C_Trail) "_tickets" = some none)
    (nf_Trail__next_ticket : PySem.W.findIn K (.ref C_Trail) "_next_ticket" = some none)
    (rd_PaperError : PySem.W.readsIn K C_PaperError (.type "type") = true)
    (ga_PaperError : PySem.W.specialIn K (.ref C_PaperError) "__getattribute__" = some (some (.builtin "type.__getattribute__")))
    (vi_PaperError : PySem.W.findCls K (.ref C_PaperError) (.type "type") "__init__" = some (.val (.builtin "ValueError.__init__")))
    (xL_BadLiteral : K.lookup C_BadLiteral = some (excClassObj nm_BadLiteral q_BadLiteral C_BadLiteral N_BadLiteral bs_BadLiteral [.ref C_PaperError, .type "ValueError", .type "Exception", .type "BaseException", .type "object"] true sn_BadLiteral sub_BadLiteral ab_BadLiteral col_BadLiteral dd_BadLiteral m0_BadLiteral m1_BadLiteral m2_BadLiteral m3_BadLiteral m5_BadLiteral "ValueError.__new__"))
    (sa_BadLiteral : PySem.W.findIn K (.ref C_BadLiteral) "__setattr__" = some (some (.builtin "object.__setattr__")))
    (eC_BadLiteral : PySem.W.subIn K (.ref C_BadLiteral) (.type "BaseException") = some true)
    (tC_BadLiteral : PySem.W.typeIn K (.ref C_BadLiteral) = some (.type "type"))
    (kC_BadLiteral : PySem.W.keepIn K (.ref C_BadLiteral) = true)
    (hg_BadLiteral : PySem.W.findIn K (.ref C_BadLiteral) "__getattribute__" = some (some (.builtin "BaseException.__getattribute__")))
    (hk_BadLiteral : PySem.W.findIn K (.ref C_BadLiteral) "__getattr__" = some none)
    (hd_BadLiteral : PySem.W.hasDictIn K C_BadLiteral = true)
    (ha_BadLiteral : PySem.W.findIn K (.ref C_BadLiteral) "__class__" = some (some (.builtin "object.__class__")))
    (hm_BadLiteral : PySem.W.mroIn K C_BadLiteral (.type "object") = some true)
    (no_BadLiteral : PySem.W.findIn K (.ref C_BadLiteral) "literal" = some none)
    (x_hn : PySem.W.specialIn K (.builtin "object.__class__") "__get__" = some (some (.builtin "getset_descriptor.__get__")))
    (x_ht : PySem.W.takesIn K (.builtin "object.__class__") = some true)
    (e_BadLiteral_BadLiteral : PySem.W.exmOne K (.ref C_BadLiteral) (.ref C_BadLiteral) = some true)
    (e_BadLiteral_PaperError : PySem.W.exmOne K (.ref C_BadLiteral) (.ref C_PaperError) = some true)
    (k_BadLiteral_PaperError : PySem.W.kitOne K (.ref C_BadLiteral) (.ref C_PaperError) = some true)
    (k_BadLiteral_BadLiteral : PySem.W.kitOne K (.ref C_BadLiteral) (.ref C_BadLiteral) = some true)
    (k_BadLiteral_ValueError : PySem.W.kitOne K (.ref C_BadLiteral) (.type "ValueError") = some true)
    (i_1 : PySem.W.kitAny K (.ref C_BadLiteral) [.ref C_BadModel, .ref C_BadName, .ref C_BadNode, .ref C_BadRatio, .ref C_BadSort] = some false)
    (i_2 : PySem.W.kitAny K (.ref C_BadLiteral) [.ref C_BadText, .ref C_NameTaken, .ref C_NoAnswer, .ref C_NoLevel, .ref C_UnknownName] = some false) :
    ∃ fd : FuncData, (∀ (s : Shared) (v : Value), BindsTo s fd ⟨[v], []⟩ [("_law_script", v)]) ∧ ∀ base : Heap, K.In base → base.Ns mainGlobals mg → FnOk l.prog w K mg base CX0 11 fa fd ["_law_script"] (spLaw K) := by
  have e := hfa.symm.trans (PySem.W.mg_of X G a_law)
  have e2 : f_law = fa := by
    cases e
    rfl
  subst e2
  let T : Txt K mg := {
    f_pool := f_pool, fd_pool := _, F_pool := fun_mk (st := s_pool) l_pool c_pool k_pool, b_pool := (fun_mk (st := s_pool) l_pool c_pool k_pool).binds (ps := ["_law_script", "_law_k"]) fun _ _ _ _ _ _ us hl => match us, hl with | [_, _], _ => rfl, g_pool := PySem.W.mg_of X G a_pool,
    f_take := f_take, fd_take := _, F_take := fun_mk (st := s_take) l_take c_take k_take, b_take := (fun_mk (st := s_take) l_take c_take k_take).binds (ps := ["_law_pool_here", "_law_size"]) fun _ _ _ _ _ _ us hl => match us, hl with | [_, _], _ => rfl, g_take := PySem.W.mg_of X G a_take,
    f_whole := f_whole, fd_whole := _, F_whole := fun_mk (st := s_whole) l_whole c_whole k_whole, b_whole := (fun_mk (st := s_whole) l_whole c_whole k_whole).binds (ps := ["_law_value"]) fun _ _ _ _ _ _ us hl => match us, hl with | [_], _ => rfl, g_whole := PySem.W.mg_of X G a_whole,
    f_alike := f_alike, fd_alike := _, F_alike := fun_mk (st := s_alike) l_alike c_alike k_alike, b_alike := (fun_mk (st := s_alike) l_alike c_alike k_alike).binds (ps := ["_law_actual", "_law_expected"]) fun _ _ _ _ _ _ us hl => match us, hl with | [_, _], _ => rfl, g_alike := PySem.W.mg_of X G a_alike,
    f_list := f_list, fd_list := _, F_list := fun_mk (st := s_list) l_list c_list k_list, b_list := (fun_mk (st := s_list) l_list c_list k_list).binds (ps := ["_law_actual", "_law_expected"]) fun _ _ _ _ _ _ us hl => match us, hl with | [_, _], _ => rfl, g_list := PySem.W.mg_of X G a_list,
    f_nodes_of := f_nodes_of, fd_nodes_of := _, F_nodes_of := fun_mk (st := s_nodes_of) l_nodes_of c_nodes_of k_nodes_of, b_nodes_of := (fun_mk (st := s_nodes_of) l_nodes_of c_nodes_of k_nodes_of).binds (ps := ["_law_pool_here"]) fun _ _ _ _ _ _ us hl => match us, hl with | [_], _ => rfl, g_nodes_of := PySem.W.mg_of X G a_nodes_of,
    f_stranger := f_stranger, fd_stranger := _, F_stranger := fun_mk (st := s_stranger) l_stranger c_stranger k_stranger, b_stranger := (fun_mk (st := s_stranger) l_stranger c_stranger k_stranger).binds (ps := ["_law_pool_here", "_law_nodes"]) fun _ _ _ _ _ _ us hl => match us, hl with | [_, _], _ => rfl, g_stranger := PySem.W.mg_of X G a_stranger,
    f_place := f_place, fd_place := _, F_place := fun_mk (st := s_place) l_place c_place k_place, b_place := (fun_mk (st := s_place) l_place c_place k_place).binds (ps := ["_law_rows", "_law_literal_here"]) fun _ _ _ _ _ _ us hl => match us, hl with | [_, _], _ => rfl, g_place := PySem.W.mg_of X G a_place,
    f_literal := f_literal, fd_literal := _, F_literal := fun_mk (st := s_literal) l_literal c_literal k_literal, b_literal := (fun_mk (st := s_literal) l_literal c_literal k_literal).binds (ps := ["_law_pool_here", "_law_nodes", "_law_rows"]) fun _ _ _ _ _ _ us hl => match us, hl with | [_, _, _], _ => rfl, g_literal := PySem.W.mg_of X G a_literal,
    f_ask := f_ask, fd_ask := _, F_ask := fun_mk (st := s_ask) l_ask c_ask k_ask, b_ask := (fun_mk (st := s_ask) l_ask c_ask k_ask).binds (ps := ["_law_trail", "_law_door", "_law_literal_here"]) fun _ _ _ _ _ _ us hl => match us, hl with | [_, _, _], _ => rfl, g_ask := PySem.W.mg_of X G a_ask,
    f_refused := f_refused, fd_refused := _, F_refused := fun_mk (st := s_refused) l_refused c_refused k_refused, b_refused := (fun_mk (st := s_refused) l_refused c_refused k_refused).binds (ps := ["_law_trail", "_law_door", "_law_literal_here"]) fun _ _ _ _ _ _ us hl => match us, hl with | [_, _, _], _ => rfl, g_refused := PySem.W.mg_of X G a_refused,
    f_refused_base := f_refused_base, fd_refused_base := _, F_refused_base := fun_mk (st := s_refused_base) l_refused_base c_refused_base k_refused_base, b_refused_base := (fun_mk (st := s_refused_base) l_refused_base c_refused_base k_refused_base).binds (ps := ["_law_trail", "_law_door", "_law_literal_here"]) fun _ _ _ _ _ _ us hl => match us, hl with | [_, _, _], _ => rfl, g_refused_base := PySem.W.mg_of X G a_refused_base,
    f_refuses := f_refuses, fd_refuses := _, F_refuses := fun_mk (st := s_refuses) l_refuses c_refuses k_refuses, b_refuses := (fun_mk (st := s_refuses) l_refuses c_refuses k_refuses).binds (ps := ["_law_trail", "_law_door", "_law_literal_here", "_law_base"]) fun _ _ _ _ _ _ us hl => match us, hl with | [_, _, _, _], _ => rfl, g_refuses := PySem.W.mg_of X G a_refuses,
    f_literal_told := f_literal_told, fd_literal_told := _, F_literal_told := fun_mk (st := s_literal_told) l_literal_told c_literal_told k_literal_told, b_literal_told := (fun_mk (st := s_literal_told) l_literal_told c_literal_told k_literal_told).binds (ps := ["_law_trail", "_law_rows", "_law_literal_here"]) fun _ _ _ _ _ _ us hl => match us, hl with | [_, _, _], _ => rfl, g_literal_told := PySem.W.mg_of X G a_literal_told,
    f_told := f_told, fd_told := _, F_told := fun_mk (st := s_told) l_told c_told k_told, b_told := (fun_mk (st := s_told) l_told c_told k_told).binds (ps := ["_law_seat"]) fun _ _ _ _ _ _ us hl => match us, hl with | [_], _ => rfl, g_told := PySem.W.mg_of X G a_told,
    f_doors := f_doors, fd_doors := _, F_doors := fun_mk (st := s_doors) l_doors c_doors k_doors, b_doors := (fun_mk (st := s_doors) l_doors c_doors k_doors).binds (ps := ["_law_seat", "_law_literal_here", "_law_k"]) fun _ _ _ _ _ _ us hl => match us, hl with | [_, _, _], _ => rfl, g_doors := PySem.W.mg_of X G a_doors,
    f_deed := f_deed, fd_deed := _, F_deed := fun_mk (st := s_deed) l_deed c_deed k_deed, b_deed := (fun_mk (st := s_deed) l_deed c_deed k_deed).binds (ps := ["_law_pool_here", "_law_seat"]) fun _ _ _ _ _ _ us hl => match us, hl with | [_, _], _ => rfl, g_deed := PySem.W.mg_of X G a_deed,
    f_law := f_law, fd_law := _, F_law := fun_mk (st := s_law) l_law c_law k_law, b_law := (fun_mk (st := s_law) l_law c_law k_law).binds (ps := ["_law_script"]) fun _ _ _ _ _ _ us hl => match us, hl with | [_], _ => rfl, g_law := PySem.W.mg_of X G a_law,
    m_len := PySem.W.mg_none_of X G m_len,
    m_int := PySem.W.mg_none_of X G m_int,
    m_abs := PySem.W.mg_none_of X G m_abs,
    m_min := PySem.W.mg_none_of X G m_min,
    m_max := PySem.W.mg_none_of X G m_max,
    m_isinstance := PySem.W.mg_none_of X G m_isinstance,
    m_range := PySem.W.mg_none_of X G m_range,
    m_bool := PySem.W.mg_none_of X G m_bool,
    m_list := PySem.W.mg_none_of X G m_list,
    m_tuple := PySem.W.mg_none_of X G m_tuple,
    m_reversed := PySem.W.mg_none_of X G m_reversed,
    m_ValueError := PySem.W.mg_none_of X G m_ValueError,
    C_BadLiteral := C_BadLiteral, c_BadLiteral := PySem.W.mg_of X G n_BadLiteral,
    C_PaperError := C_PaperError, c_PaperError := PySem.W.mg_of X G n_PaperError,
    C_BadModel := C_BadModel, c_BadModel := PySem.W.mg_of X G n_BadModel,
    C_BadName := C_BadName, c_BadName := PySem.W.mg_of X G n_BadName,
    C_BadNode := C_BadNode, c_BadNode := PySem.W.mg_of X G n_BadNode,
    C_BadRatio := C_BadRatio, c_BadRatio := PySem.W.mg_of X G n_BadRatio,
    C_BadSort := C_BadSort, c_BadSort := PySem.W.mg_of X G n_BadSort,
    C_BadText := C_BadText, c_BadText := PySem.W.mg_of X G n_BadText,
    C_NameTaken := C_NameTaken, c_NameTaken := PySem.W.mg_of X G n_NameTaken,
    C_NoAnswer := C_NoAnswer, c_NoAnswer := PySem.W.mg_of X G n_NoAnswer,
    C_NoLevel := C_NoLevel, c_NoLevel := PySem.W.mg_of X G n_NoLevel,
    C_UnknownName := C_UnknownName, c_UnknownName := PySem.W.mg_of X G n_UnknownName,
    f_BadLiteral_init := f_BadLiteral_init, fd_BadLiteral_init := _, F_BadLiteral_init := fun_mk (st := s_BadLiteral_init) l_BadLiteral_init c_BadLiteral_init k_BadLiteral_init, b_BadLiteral_init := (fun_mk (st := s_BadLiteral_init) l_BadLiteral_init c_BadLiteral_init k_BadLiteral_init).binds (ps := ["self", "literal"]) fun _ _ _ _ _ _ us hl => match us, hl with | [_, _], _ => rfl,
    f_Trail_init := f_Trail_init, fd_Trail_init := _, F_Trail_init := fun_mk (st := s_Trail_init) l_Trail_init c_Trail_init k_Trail_init, b_Trail_init := (fun_mk (st := s_Trail_init) l_Trail_init c_Trail_init k_Trail_init).binds (ps := ["self", "nodes"]) fun _ _ _ _ _ _ us hl => match us, hl with | [_, _], _ => rfl,
    f_Trail_choose := f_Trail_choose, fd_Trail_choose := _, F_Trail_choose := fun_mk (st := s_Trail_choose) l_Trail_choose c_Trail_choose k_Trail_choose, b_Trail_choose := (fun_mk (st := s_Trail_choose) l_Trail_choose c_Trail_choose k_Trail_choose).binds (ps := ["self", "literal"]) fun _ _ _ _ _ _ us hl => match us, hl with | [_, _], _ => rfl,
    f_Trail_force := f_Trail_force, fd_Trail_force := _, F_Trail_force := fun_mk (st := s_Trail_force) l_Trail_force c_Trail_force k_Trail_force, b_Trail_force := (fun_mk (st := s_Trail_force) l_Trail_force c_Trail_force k_Trail_force).binds (ps := ["self", "literal", "reason"]) fun _ _ _ _ _ _ us hl => match us, hl with | [_, _, _], _ => rfl,
    f_Trail_back := f_Trail_back, fd_Trail_back := _, F_Trail_back := fun_mk (st := s_Trail_back) l_Trail_back c_Trail_back k_Trail_back, b_Trail_back := (fun_mk (st := s_Trail_back) l_Trail_back c_Trail_back k_Trail_back).binds (ps := ["self", "level"]) fun _ _ _ _ _ _ us hl => match us, hl with | [_, _], _ => rfl,
    f_Trail_value := f_Trail_value, fd_Trail_value := _, F_Trail_value := fun_mk (st := s_Trail_value) l_Trail_value c_Trail_value k_Trail_value, b_Trail_value := (fun_mk (st := s_Trail_value) l_Trail_value c_Trail_value k_Trail_value).binds (ps := ["self", "literal"]) fun _ _ _ _ _ _ us hl => match us, hl with | [_, _], _ => rfl,
    f_Trail_level_of := f_Trail_level_of, fd_Trail_level_of := _, F_Trail_level_of := fun_mk (st := s_Trail_level_of) l_Trail_level_of c_Trail_level_of k_Trail_level_of, b_Trail_level_of := (fun_mk (st := s_Trail_level_of) l_Trail_level_of c_Trail_level_of k_Trail_level_of).binds (ps := ["self", "literal"]) fun _ _ _ _ _ _ us hl => match us, hl with | [_, _], _ => rfl,
    f_Trail_reason_of := f_Trail_reason_of, fd_Trail_reason_of := _, F_Trail_reason_of := fun_mk (st := s_Trail_reason_of) l_Trail_reason_of c_Trail_reason_of k_Trail_reason_of, b_Trail_reason_of := (fun_mk (st := s_Trail_reason_of) l_Trail_reason_of c_Trail_reason_of k_Trail_reason_of).binds (ps := ["self", "literal"]) fun _ _ _ _ _ _ us hl => match us, hl with | [_, _], _ => rfl,
    f_Trail_place_of := f_Trail_place_of, fd_Trail_place_of := _, F_Trail_place_of := fun_mk (st := s_Trail_place_of) l_Trail_place_of c_Trail_place_of k_Trail_place_of, b_Trail_place_of := (fun_mk (st := s_Trail_place_of) l_Trail_place_of c_Trail_place_of k_Trail_place_of).binds (ps := ["self", "literal"]) fun _ _ _ _ _ _ us hl => match us, hl with | [_, _], _ => rfl,
    f_Trail_literals := f_Trail_literals, fd_Trail_literals := _, F_Trail_literals := fun_mk (st := s_Trail_literals) l_Trail_literals c_Trail_literals k_Trail_literals, b_Trail_literals := (fun_mk (st := s_Trail_literals) l_Trail_literals c_Trail_literals k_Trail_literals).binds (ps := ["self"]) fun _ _ _ _ _ _ us hl => match us, hl with | [_], _ => rfl,
    f_Trail_sizes := f_Trail_sizes, fd_Trail_sizes := _, F_Trail_sizes := fun_mk (st := s_Trail_sizes) l_Trail_sizes c_Trail_sizes k_Trail_sizes, b_Trail_sizes := (fun_mk (st := s_Trail_sizes) l_Trail_sizes c_Trail_sizes k_Trail_sizes).binds (ps := ["self"]) fun _ _ _ _ _ _ us hl => match us, hl with | [_], _ => rfl,
    f_Trail_depth := f_Trail_depth, fd_Trail_depth := _, F_Trail_depth := fun_mk (st := s_Trail_depth) l_Trail_depth c_Trail_depth k_Trail_depth, b_Trail_depth := (fun_mk (st := s_Trail_depth) l_Trail_depth c_Trail_depth k_Trail_depth).binds (ps := ["self"]) fun _ _ _ _ _ _ us hl => match us, hl with | [_], _ => rfl,
    f_Trail_contains := f_Trail_contains, fd_Trail_contains := _, F_Trail_contains := fun_mk (st := s_Trail_contains) l_Trail_contains c_Trail_contains k_Trail_contains, b_Trail_contains := (fun_mk (st := s_Trail_contains) l_Trail_contains c_Trail_contains k_Trail_contains).binds (ps := ["self", "x"]) fun _ _ _ _ _ _ us hl => match us, hl with | [_, _], _ => rfl,
    f_Trail_put := f_Trail_put, fd_Trail_put := _, F_Trail_put := fun_mk (st := s_Trail_put) l_Trail_put c_Trail_put k_Trail_put, b_Trail_put := (fun_mk (st := s_Trail_put) l_Trail_put c_Trail_put k_Trail_put).binds (ps := ["self", "literal", "reason"]) fun _ _ _ _ _ _ us hl => match us, hl with | [_, _, _], _ => rfl,
    f_Trail_refuse_unknown := f_Trail_refuse_unknown, fd_Trail_refuse_unknown := _, F_Trail_refuse_unknown := fun_mk (st := s_Trail_refuse_unknown) l_Trail_refuse_unknown c_Trail_refuse_unknown k_Trail_refuse_unknown, b_Trail_refuse_unknown := (fun_mk (st := s_Trail_refuse_unknown) l_Trail_refuse_unknown c_Trail_refuse_unknown k_Trail_refuse_unknown).binds (ps := ["self", "literal"]) fun _ _ _ _ _ _ us hl => match us, hl with | [_, _], _ => rfl,
    f_Trail_refuse_unless_open := f_Trail_refuse_unless_open, fd_Trail_refuse_unless_open := _, F_Trail_refuse_unless_open := fun_mk (st := s_Trail_refuse_unless_open) l_Trail_refuse_unless_open c_Trail_refuse_unless_open k_Trail_refuse_unless_open, b_Trail_refuse_unless_open := (fun_mk (st := s_Trail_refuse_unless_open) l_Trail_refuse_unless_open c_Trail_refuse_unless_open k_Trail_refuse_unless_open).binds (ps := ["self", "literal"]) fun _ _ _ _ _ _ us hl => match us, hl with | [_, _], _ => rfl,
    C_Trail := C_Trail, c_Trail := PySem.W.mg_of X G n_Trail, cl_Trail := ⟨pg_Trail, hd_Trail, po_Trail, sa_Trail⟩, mk_Trail := ⟨mk_Trail, a_Trail_init, beq_iff_eq.mpr i_Trail_init, kc_Trail⟩,
    n_Trail__nodes := nf_Trail__nodes,
    n_Trail__literals := nf_Trail__literals,
    n_Trail__levels := nf_Trail__levels,
    n_Trail__reasons := nf_Trail__reasons,
    n_Trail__places := nf_Trail__places,
    n_Trail__starts := nf_Trail__starts,
    n_Trail__tickets := nf_Trail__tickets,
    n_Trail__next_ticket := nf_Trail__next_ticket,
    M_Trail_init := ⟨a_Trail_init, beq_iff_eq.mpr i_Trail_init, k_Trail_init⟩,
    M_Trail_choose := ⟨a_Trail_choose, beq_iff_eq.mpr i_Trail_choose, k_Trail_choose⟩,
    M_Trail_force := ⟨a_Trail_force, beq_iff_eq.mpr i_Trail_force, k_Trail_force⟩,
    M_Trail_back := ⟨a_Trail_back, beq_iff_eq.mpr i_Trail_back, k_Trail_back⟩,
    M_Trail_value := ⟨a_Trail_value, beq_iff_eq.mpr i_Trail_value, k_Trail_value⟩,
    M_Trail_level_of := ⟨a_Trail_level_of, beq_iff_eq.mpr i_Trail_level_of, k_Trail_level_of⟩,
    M_Trail_reason_of := ⟨a_Trail_reason_of, beq_iff_eq.mpr i_Trail_reason_of, k_Trail_reason_of⟩,
    M_Trail_place_of := ⟨a_Trail_place_of, beq_iff_eq.mpr i_Trail_place_of, k_Trail_place_of⟩,
    M_Trail_literals := ⟨a_Trail_literals, beq_iff_eq.mpr i_Trail_literals, k_Trail_literals⟩,
    M_Trail_sizes := ⟨a_Trail_sizes, beq_iff_eq.mpr i_Trail_sizes, k_Trail_sizes⟩,
    M_Trail_depth := ⟨a_Trail_depth, beq_iff_eq.mpr i_Trail_depth, k_Trail_depth⟩,
    M_Trail_contains := ⟨a_Trail_contains, beq_iff_eq.mpr i_Trail_contains, k_Trail_contains⟩,
    M_Trail_put := ⟨a_Trail_put, beq_iff_eq.mpr i_Trail_put, k_Trail_put⟩,
    M_Trail_refuse_unknown := ⟨a_Trail_refuse_unknown, beq_iff_eq.mpr i_Trail_refuse_unknown, k_Trail_refuse_unknown⟩,
    M_Trail_refuse_unless_open := ⟨a_Trail_refuse_unless_open, beq_iff_eq.mpr i_Trail_refuse_unless_open, k_Trail_refuse_unless_open⟩,
    in_Trail := ⟨a_Trail_contains, i_Trail_contains⟩,
    xb_PaperError := ⟨rd_PaperError, ga_PaperError, vi_PaperError⟩,
    xo_BadLiteral := ⟨⟨⟨nm_BadLiteral, q_BadLiteral, N_BadLiteral, bs_BadLiteral, _, sn_BadLiteral, sub_BadLiteral, ab_BadLiteral, col_BadLiteral, dd_BadLiteral, m0_BadLiteral, m1_BadLiteral, m2_BadLiteral, m3_BadLiteral, m5_BadLiteral, xL_BadLiteral, by first | (unfold PySem.HandSPX.refsVE; decide +kernel) | rfl⟩, sa_BadLiteral, eC_BadLiteral, tC_BadLiteral, kC_BadLiteral⟩, ⟨hg_BadLiteral, hk_BadLiteral, eC_BadLiteral, hd_BadLiteral, ha_BadLiteral, x_hn, x_ht, hm_BadLiteral⟩, no_BadLiteral, a_BadLiteral_init, i_BadLiteral_init⟩,
    e_BadLiteral_BadLiteral := e_BadLiteral_BadLiteral,
    e_BadLiteral_PaperError := e_BadLiteral_PaperError,
    k_BadLiteral_PaperError := k_BadLiteral_PaperError,
    k_BadLiteral_BadLiteral := k_BadLiteral_BadLiteral,
    k_BadLiteral_ValueError := k_BadLiteral_ValueError,
    i_1 := i_1,
    i_2 := i_2 }
  exact ⟨PySem.W.fnOf "law" "law" (defArgs s_law) (defBody s_law) (defScope s_law) .none kV_law dc_law pm_law an_law cd_law ct_law, fun s v => .of_eq rfl, fun base _ _ => ok_law T⟩
end L

open PySem PySem.W PyProof.Rows
set_option maxHeartbeats 0 in
theorem PySem.Challenge.cw_papersat_k21_trail_keeps_levels_holds : PySem.Challenge.rw_papersat_k21_trail_keeps_levels.Holds := by
  w_on; o_law; k_head; (case hw => w_witness2)
  k_fill
  refine L2.walk_of (l := PySem.Challenge.rw_papersat_k21_trail_keeps_levels) (n := 63) (k := 11) (x := "_law_script") (CX := fun _ => L2.CX0) (sp := fun w => L.spLaw _) rfl (by decide) rfl ⟨rfl, by decide, by decide⟩ (fun w h Y => PySem.W.kIn_of Y) ?F (fun _ _ a ns hl _ hS => ⟨a, ns, rfl, hS, hl, fun _ => rfl⟩) (fun _ _ _ _ _ h => h)
  case F =>
    intro w mg fa h KX G hmg
    refine' L.all_mk KX G hmg ?a_pool ?l_pool ?c_pool ?k_pool ?a_take ?l_take ?c_take ?k_take ?a_whole ?l_whole ?c_whole ?k_whole ?a_alike ?l_alike ?c_alike ?k_alike ?a_list ?l_list ?c_list ?k_list ?a_nodes_of ?l_nodes_of ?c_nodes_of ?k_nodes_of ?a_stranger ?l_stranger ?c_stranger ?k_stranger ?a_place ?l_place ?c_place ?k_place ?a_literal ?l_literal ?c_literal ?k_literal ?a_ask ?l_ask ?c_ask ?k_ask ?a_refused ?l_refused ?c_refused ?k_refused ?a_refused_base ?l_refused_base ?c_refused_base ?k_refused_base ?a_refuses ?l_refuses ?c_refuses ?k_refuses ?a_literal_told ?l_literal_told ?c_literal_told ?k_literal_told ?a_told ?l_told ?c_told ?k_told ?a_doors ?l_doors ?c_doors ?k_doors ?a_deed ?l_deed ?c_deed ?k_deed ?a_law ?l_law ?c_law ?k_law ?m_len ?m_int ?m_abs ?m_min ?m_max ?m_isinstance ?m_range ?m_bool ?m_list ?m_tuple ?m_reversed ?m_ValueError ?n_BadLiteral ?n_PaperError ?n_BadModel ?n_BadName ?n_BadNode ?n_BadRatio ?n_BadSort ?n_BadText ?n_NameTaken ?n_NoAnswer ?n_NoLevel ?n_UnknownName ?n_Trail ?a_BadLiteral_init ?i_BadLiteral_init ?l_BadLiteral_init ?c_BadLiteral_init ?k_BadLiteral_init ?a_Trail_init ?i_Trail_init ?l_Trail_init ?c_Trail_init ?k_Trail_init ?a_Trail_choose ?i_Trail_choose ?l_Trail_choose ?c_Trail_choose ?k_Trail_choose ?a_Trail_force ?i_Trail_force ?l_Trail_force ?c_Trail_force ?k_Trail_force ?a_Trail_back ?i_Trail_back ?l_Trail_back ?c_Trail_back ?k_Trail_back ?a_Trail_value ?i_Trail_value ?l_Trail_value ?c_Trail_value ?k_Trail_value ?a_Trail_level_of ?i_Trail_level_of ?l_Trail_level_of ?c_Trail_level_of ?k_Trail_level_of ?a_Trail_reason_of ?i_Trail_reason_of ?l_Trail_reason_of ?c_Trail_reason_of ?k_Trail_reason_of ?a_Trail_place_of ?i_Trail_place_of ?l_Trail_place_of ?c_Trail_place_of ?k_Trail_place_of ?a_Trail_literals ?i_Trail_literals ?l_Trail_literals ?c_Trail_literals ?k_Trail_literals ?a_Trail_sizes ?i_Trail_sizes ?l_Trail_sizes ?c_Trail_sizes ?k_Trail_sizes ?a_Trail_depth ?i_Trail_depth ?l_Trail_depth ?c_Trail_depth ?k_Trail_depth ?a_Trail_contains ?i_Trail_contains ?l_Trail_contains ?c_Trail_contains ?k_Trail_contains ?a_Trail_put ?i_Trail_put ?l_Trail_put ?c_Trail_put ?k_Trail_put ?a_Trail_refuse_unknown ?i_Trail_refuse_unknown ?l_Trail_refuse_unknown ?c_Trail_refuse_unknown ?k_Trail_refuse_unknown ?a_Trail_refuse_unless_open ?i_Trail_refuse_unless_open ?l_Trail_refuse_unless_open ?c_Trail_refuse_unless_open ?k_Trail_refuse_unless_open ?pg_Trail ?hd_Trail ?po_Trail ?sa_Trail ?mk_Trail ?kc_Trail ?nf_Trail__nodes ?nf_Trail__literals ?nf_Trail__levels ?nf_Trail__reasons ?nf_Trail__places ?nf_Trail__starts ?nf_Trail__tickets ?nf_Trail__next_ticket ?rd_PaperError ?ga_PaperError ?vi_PaperError ?xL_BadLiteral ?sa_BadLiteral ?eC_BadLiteral ?tC_BadLiteral ?kC_BadLiteral ?hg_BadLiteral ?hk_BadLiteral ?hd_BadLiteral ?ha_BadLiteral ?hm_BadLiteral ?no_BadLiteral ?x_hn ?x_ht ?e_BadLiteral_BadLiteral ?e_BadLiteral_PaperError ?k_BadLiteral_PaperError ?k_BadLiteral_BadLiteral ?k_BadLiteral_ValueError ?i_1 ?i_2
    (case a_pool => first | k_is | k_exc | rfl | kernel_rfl); (case l_pool => first | k_is | k_exc | rfl | kernel_rfl); (case c_pool => first | k_is | k_exc | rfl | kernel_rfl); (case k_pool => first | k_is | k_exc | rfl | kernel_rfl); (case a_take => first | k_is | k_exc | rfl | kernel_rfl); (case l_take => first | k_is | k_exc | rfl | kernel_rfl); (case c_take => first | k_is | k_exc | rfl | kernel_rfl); (case k_take => first | k_is | k_exc | rfl | kernel_rfl); (case a_whole => first | k_is | k_exc | rfl | kernel_rfl); (case l_whole => first | k_is | k_exc | rfl | kernel_rfl); (case c_whole => first | k_is | k_exc | rfl | kernel_rfl); (case k_whole => first | k_is | k_exc | rfl | kernel_rfl); (case a_alike => first | k_is | k_exc | rfl | kernel_rfl); (case l_alike => first | k_is | k_exc | rfl | kernel_rfl); (case c_alike => first | k_is | k_exc | rfl | kernel_rfl); (case k_alike => first | k_is | k_exc | rfl | kernel_rfl); (case a_list => first | k_is | k_exc | rfl | kernel_rfl); (case l_list => first | k_is | k_exc | rfl | kernel_rfl); (case c_list => first | k_is | k_exc | rfl | kernel_rfl); (case k_list => first | k_is | k_exc | rfl | kernel_rfl); (case a_nodes_of => first | k_is | k_exc | rfl | kernel_rfl); (case l_nodes_of => first | k_is | k_exc | rfl | kernel_rfl); (case c_nodes_of => first | k_is | k_exc | rfl | kernel_rfl); (case k_nodes_of => first | k_is | k_exc | rfl | kernel_rfl); (case a_stranger => first | k_is | k_exc | rfl | kernel_rfl); (case l_stranger => first | k_is | k_exc | rfl | kernel_rfl); (case c_stranger => first | k_is | k_exc | rfl | kernel_rfl); (case k_stranger => first | k_is | k_exc | rfl | kernel_rfl); (case a_place => first | k_is | k_exc | rfl | kernel_rfl); (case l_place => first | k_is | k_exc | rfl | kernel_rfl); (case c_place => first | k_is | k_exc | rfl | kernel_rfl); (case k_place => first | k_is | k_exc | rfl | kernel_rfl); (case a_literal => first | k_is | k_exc | rfl | kernel_rfl); (case l_literal => first | k_is | k_exc | rfl | kernel_rfl); (case c_literal => first | k_is | k_exc | rfl | kernel_rfl); (case k_literal => first | k_is | k_exc | rfl | kernel_rfl); (case a_ask => first | k_is | k_exc | rfl | kernel_rfl); (case l_ask => first | k_is | k_exc | rfl | kernel_rfl); (case c_ask => first | k_is | k_exc | rfl | kernel_rfl); (case k_ask => first | k_is | k_exc | rfl | kernel_rfl); (case a_refused => first | k_is | k_exc | rfl | kernel_rfl); (case l_refused => first | k_is | k_exc | rfl | kernel_rfl); (case c_refused => first | k_is | k_exc | rfl | kernel_rfl); (case k_refused => first | k_is | k_exc | rfl | kernel_rfl); (case a_refused_base => first | k_is | k_exc | rfl | kernel_rfl); (case l_refused_base => first | k_is | k_exc | rfl | kernel_rfl); (case c_refused_base => first | k_is | k_exc | rfl | kernel_rfl); (case k_refused_base => first | k_is | k_exc | rfl | kernel_rfl); (case a_refuses => first | k_is | k_exc | rfl | kernel_rfl); (case l_refuses => first | k_is | k_exc | rfl | kernel_rfl); (case c_refuses => first | k_is | k_exc | rfl | kernel_rfl); (case k_refuses => first | k_is | k_exc | rfl | kernel_rfl); (case a_literal_told => first | k_is | k_exc | rfl | kernel_rfl); (case l_literal_told => first | k_is | k_exc | rfl | kernel_rfl); (case c_literal_told => first | k_is | k_exc | rfl | kernel_rfl); (case k_literal_told => first | k_is | k_exc | rfl | kernel_rfl); (case a_told => first | k_is | k_exc | rfl | kernel_rfl); (case l_told => first | k_is | k_exc | rfl | kernel_rfl); (case c_told => first | k_is | k_exc | rfl | kernel_rfl); (case k_told => first | k_is | k_exc | rfl | kernel_rfl); (case a_doors => first | k_is | k_exc | rfl | kernel_rfl); (case l_doors => first | k_is | k_exc | rfl | kernel_rfl); (case c_doors => first | k_is | k_exc | rfl | kernel_rfl); (case k_doors => first | k_is | k_exc | rfl | kernel_rfl); (case a_deed => first | k_is | k_exc | rfl | kernel_rfl); (case l_deed => first | k_is | k_exc | rfl | kernel_rfl); (case c_deed => first | k_is | k_exc | rfl | kernel_rfl); (case k_deed => first | k_is | k_exc | rfl | kernel_rfl); (case a_law => first | k_is | k_exc | rfl | kernel_rfl); (case l_law => first | k_is | k_exc | rfl | kernel_rfl); (case c_law => first | k_is | k_exc | rfl | kernel_rfl); (case k_law => first | k_is | k_exc | rfl | kernel_rfl); (case m_len => first | k_is | k_exc | rfl | kernel_rfl); (case m_int => first | k_is | k_exc | rfl | kernel_rfl); (case m_abs => first | k_is | k_exc | rfl | kernel_rfl); (case m_min => first | k_is | k_exc | rfl | kernel_rfl); (case m_max => first | k_is | k_exc | rfl | kernel_rfl); (case m_isinstance => first | k_is | k_exc | rfl | kernel_rfl); (case m_range => first | k_is | k_exc | rfl | kernel_rfl); (case m_bool => first | k_is | k_exc | rfl | kernel_rfl); (case m_list => first | k_is | k_exc | rfl | kernel_rfl); (case m_tuple => first | k_is | k_exc | rfl | kernel_rfl); (case m_reversed => first | k_is | k_exc | rfl | kernel_rfl); (case m_ValueError => first | k_is | k_exc | rfl | kernel_rfl); (case n_BadLiteral => first | k_is | k_exc | rfl | kernel_rfl); (case n_PaperError => first | k_is | k_exc | rfl | kernel_rfl); (case n_BadModel => first | k_is | k_exc | rfl | kernel_rfl); (case n_BadName => first | k_is | k_exc | rfl | kernel_rfl); (case n_BadNode => first | k_is | k_exc | rfl | kernel_rfl); (case n_BadRatio => first | k_is | k_exc | rfl | kernel_rfl); (case n_BadSort => first | k_is | k_exc | rfl | kernel_rfl); (case n_BadText => first | k_is | k_exc | rfl | kernel_rfl); (case n_NameTaken => first | k_is | k_exc | rfl | kernel_rfl); (case n_NoAnswer => first | k_is | k_exc | rfl | kernel_rfl); (case n_NoLevel => first | k_is | k_exc | rfl | kernel_rfl); (case n_UnknownName => first | k_is | k_exc | rfl | kernel_rfl); (case n_Trail => first | k_is | k_exc | rfl | kernel_rfl); (case a_BadLiteral_init => first | k_is | k_exc | rfl | kernel_rfl); (case i_BadLiteral_init => first | k_is | k_exc | rfl | kernel_rfl); (case l_BadLiteral_init => first | k_is | k_exc | rfl | kernel_rfl); (case c_BadLiteral_init => first | k_is | k_exc | rfl | kernel_rfl); (case k_BadLiteral_init => first | k_is | k_exc | rfl | kernel_rfl); (case a_Trail_init => first | k_is | k_exc | rfl | kernel_rfl); (case i_Trail_init => first | k_is | k_exc | rfl | kernel_rfl); (case l_Trail_init => first | k_is | k_exc | rfl | kernel_rfl); (case c_Trail_init => first | k_is | k_exc | rfl | kernel_rfl); (case k_Trail_init => first | k_is | k_exc | rfl | kernel_rfl); (case a_Trail_choose => first | k_is | k_exc | rfl | kernel_rfl); (case i_Trail_choose => first | k_is | k_exc | rfl | kernel_rfl); (case l_Trail_choose => first | k_is | k_exc | rfl | kernel_rfl); (case c_Trail_choose => first | k_is | k_exc | rfl | kernel_rfl); (case k_Trail_choose => first | k_is | k_exc | rfl | kernel_rfl); (case a_Trail_force => first | k_is | k_exc | rfl | kernel_rfl); (case i_Trail_force => first | k_is | k_exc | rfl | kernel_rfl); (case l_Trail_force => first | k_is | k_exc | rfl | kernel_rfl); (case c_Trail_force => first | k_is | k_exc | rfl | kernel_rfl); (case k_Trail_force => first | k_is | k_exc | rfl | kernel_rfl); (case a_Trail_back => first | k_is | k_exc | rfl | kernel_rfl); (case i_Trail_back => first | k_is | k_exc | rfl | kernel_rfl); (case l_Trail_back => first | k_is | k_exc | rfl | kernel_rfl); (case c_Trail_back => first | k_is | k_exc | rfl | kernel_rfl); (case k_Trail_back => first | k_is | k_exc | rfl | kernel_rfl); (case a_Trail_value => first | k_is | k_exc | rfl | kernel_rfl); (case i_Trail_value => first | k_is | k_exc | rfl | kernel_rfl); (case l_Trail_value => first | k_is | k_exc | rfl | kernel_rfl); (case c_Trail_value => first | k_is | k_exc | rfl | kernel_rfl); (case k_Trail_value => first | k_is | k_exc | rfl | kernel_rfl); (case a_Trail_level_of => first | k_is | k_exc | rfl | kernel_rfl); (case i_Trail_level_of => first | k_is | k_exc | rfl | kernel_rfl); (case l_Trail_level_of => first | k_is | k_exc | rfl | kernel_rfl); (case c_Trail_level_of => first | k_is | k_exc | rfl | kernel_rfl); (case k_Trail_level_of => first | k_is | k_exc | rfl | kernel_rfl); (case a_Trail_reason_of => first | k_is | k_exc | rfl | kernel_rfl); (case i_Trail_reason_of => first | k_is | k_exc | rfl | kernel_rfl); (case l_Trail_reason_of => first | k_is | k_exc | rfl | kernel_rfl); (case c_Trail_reason_of => first | k_is | k_exc | rfl | kernel_rfl); (case k_Trail_reason_of => first | k_is | k_exc | rfl | kernel_rfl); (case a_Trail_place_of => first | k_is | k_exc | rfl | kernel_rfl); (case i_Trail_place_of => first | k_is | k_exc | rfl | kernel_rfl); (case l_Trail_place_of => first | k_is | k_exc | rfl | kernel_rfl); (case c_Trail_place_of => first | k_is | k_exc | rfl | kernel_rfl); (case k_Trail_place_of => first | k_is | k_exc | rfl | kernel_rfl); (case a_Trail_literals => first | k_is | k_exc | rfl | kernel_rfl); (case i_Trail_literals => first | k_is | k_exc | rfl | kernel_rfl); (case l_Trail_literals => first | k_is | k_exc | rfl | kernel_rfl); (case c_Trail_literals => first | k_is | k_exc | rfl | kernel_rfl); (case k_Trail_literals => first | k_is | k_exc | rfl | kernel_rfl); (case a_Trail_sizes => first | k_is | k_exc | rfl | kernel_rfl); (case i_Trail_sizes => first | k_is | k_exc | rfl | kernel_rfl); (case l_Trail_sizes => first | k_is | k_exc | rfl | kernel_rfl); (case c_Trail_sizes => first | k_is | k_exc | rfl | kernel_rfl); (case k_Trail_sizes => first | k_is | k_exc | rfl | kernel_rfl); (case a_Trail_depth => first | k_is | k_exc | rfl | kernel_rfl); (case i_Trail_depth => first | k_is | k_exc | rfl | kernel_rfl); (case l_Trail_depth => first | k_is | k_exc | rfl | kernel_rfl); (case c_Trail_depth => first | k_is | k_exc | rfl | kernel_rfl); (case k_Trail_depth => first | k_is | k_exc | rfl | kernel_rfl); (case a_Trail_contains => first | k_is | k_exc | rfl | kernel_rfl); (case i_Trail_contains => first | k_is | k_exc | rfl | kernel_rfl); (case l_Trail_contains => first | k_is | k_exc | rfl | kernel_rfl); (case c_Trail_contains => first | k_is | k_exc | rfl | kernel_rfl); (case k_Trail_contains => first | k_is | k_exc | rfl | kernel_rfl); (case a_Trail_put => first | k_is | k_exc | rfl | kernel_rfl); (case i_Trail_put => first | k_is | k_exc | rfl | kernel_rfl); (case l_Trail_put => first | k_is | k_exc | rfl | kernel_rfl); (case c_Trail_put => first | k_is | k_exc | rfl | kernel_rfl); (case k_Trail_put => first | k_is | k_exc | rfl | kernel_rfl); (case a_Trail_refuse_unknown => first | k_is | k_exc | rfl | kernel_rfl); (case i_Trail_refuse_unknown => first | k_is | k_exc | rfl | kernel_rfl); (case l_Trail_refuse_unknown => first | k_is | k_exc | rfl | kernel_rfl); (case c_Trail_refuse_unknown => first | k_is | k_exc | rfl | kernel_rfl); (case k_Trail_refuse_unknown => first | k_is | k_exc | rfl | kernel_rfl); (case a_Trail_refuse_unless_open => first | k_is | k_exc | rfl | kernel_rfl); (case i_Trail_refuse_unless_open => first | k_is | k_exc | rfl | kernel_rfl); (case l_Trail_refuse_unless_open => first | k_is | k_exc | rfl | kernel_rfl); (case c_Trail_refuse_unless_open => first | k_is | k_exc | rfl | kernel_rfl); (case k_Trail_refuse_unless_open => first | k_is | k_exc | rfl | kernel_rfl); (case pg_Trail => first | k_is | k_exc | rfl | kernel_rfl); (case hd_Trail => first | k_is | k_exc | rfl | kernel_rfl); (case po_Trail => first | k_is | k_exc | rfl | kernel_rfl); (case sa_Trail => first | k_is | k_exc | rfl | kernel_rfl); (case mk_Trail => first | k_is | k_exc | rfl | kernel_rfl); (case kc_Trail => first | k_is | k_exc | rfl | kernel_rfl); (case nf_Trail__nodes => first | k_is | k_exc | rfl | kernel_rfl); (case nf_Trail__literals => first | k_is | k_exc | rfl | kernel_rfl); (case nf_Trail__levels => first | k_is | k_exc | rfl | kernel_rfl); (case nf_Trail__reasons => first | k_is | k_exc | rfl | kernel_rfl); (case nf_Trail__places => first | k_is | k_exc | rfl | kernel_rfl); (case nf_Trail__starts => first | k_is | k_exc | rfl | kernel_rfl); (case nf_Trail__tickets => first | k_is | k_exc | rfl | kernel_rfl); (case nf_Trail__next_ticket => first | k_is | k_exc | rfl | kernel_rfl); (case rd_PaperError => first | k_is | k_exc | rfl | kernel_rfl); (case ga_PaperError => first | k_is | k_exc | rfl | kernel_rfl); (case vi_PaperError => first | k_is | k_exc | rfl | kernel_rfl); (case xL_BadLiteral => first | k_is | k_exc | rfl | kernel_rfl); (case sa_BadLiteral => first | k_is | k_exc | rfl | kernel_rfl); (case eC_BadLiteral => first | k_is | k_exc | rfl | kernel_rfl); (case tC_BadLiteral => first | k_is | k_exc | rfl | kernel_rfl); (case kC_BadLiteral => first | k_is | k_exc | rfl | kernel_rfl); (case hg_BadLiteral => first | k_is | k_exc | rfl | kernel_rfl); (case hk_BadLiteral => first | k_is | k_exc | rfl | kernel_rfl); (case hd_BadLiteral => first | k_is | k_exc | rfl | kernel_rfl); (case ha_BadLiteral => first | k_is | k_exc | rfl | kernel_rfl); (case hm_BadLiteral => first | k_is | k_exc | rfl | kernel_rfl); (case no_BadLiteral => first | k_is | k_exc | rfl | kernel_rfl); (case x_hn => first | k_is | k_exc | rfl | kernel_rfl); (case x_ht => first | k_is | k_exc | rfl | kernel_rfl); (case e_BadLiteral_BadLiteral => first | k_is | k_exc | rfl | kernel_rfl); (case e_BadLiteral_PaperError => first | k_is | k_exc | rfl | kernel_rfl); (case k_BadLiteral_PaperError => first | k_is | k_exc | rfl | kernel_rfl); (case k_BadLiteral_BadLiteral => first | k_is | k_exc | rfl | kernel_rfl); (case k_BadLiteral_ValueError => first | k_is | k_exc | rfl | kernel_rfl); (case i_1 => first | k_is | k_exc | rfl | kernel_rfl); (case i_2 => first | k_is | k_exc | rfl | kernel_rfl)
#print axioms PySem.Challenge.cw_papersat_k21_trail_keeps_levels_holds
