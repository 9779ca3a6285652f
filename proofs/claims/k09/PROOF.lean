import PyProof.Rows.All
import Wide.All
import OpenK.AllK
import Wide.FinOn
import HandS.ForMost
import HandS.ForExc
import HandS.IsInst
import HandS.Defaults
import HandS.Wide
import HandS.WideBits
import HandS.ExcIs
import HandS.Small
import HandS.Flow
import HandS.Evl
import HandS.ExcInit
import HandS.ExcField
import HandS.FStr
import HandS.StrMore
import HandS.Codes
import HandS.Walk
import HandS.TupLe
import KE.KExcIs
import HandS.ExcCtx
import HandS.Hot
import HandS.HotCalls
import HandS.TryMany
import HandS.ExcOwn
import HandS.Rev
import KE.GoesMore
import HandS.ReplaceLit
import HandS.Gcd
import HandS.ReplaceList
import PySem.Challenge.RW_papersat_k09_words_and_places
set_option Elab.async false
set_option linter.all false
set_option maxRecDepth 100000
set_option maxHeartbeats 4000000
/-! ### short words for readings -/
namespace Z
open PySem PySem.Spec PyProof.Rows L2
variable {σ σ' : L2.St} {H : Hp} {Q : VK} {D : Ends} {ta tb te : TE} {t u : TS} {tt tu : TT} {g : TG} {v x y : V} {i : Nat} {K : PySem.W.Frag} {p : Addr}
theorem w_var (h : σ[i]? = some (some v)) (q : Q v H) : tVar i σ H Q := ⟨v, h, q⟩
theorem w_c (q : Q v H) : tC v σ H Q := q
theorem w_op {r : R2} (h : ta σ H fun x H1 => tb σ H1 fun y H2 => r x y H2 Q) : tOp r ta tb σ H Q := h
theorem w_un {r : V → Hp → VK → Prop} (h : ta σ H fun x H1 => r x H1 Q) : tUn r ta σ H Q := h
theorem w_rI0 {f : Int → Int → V} {a b : Int} (q : Q (f a b) H) : rI0 f (.int a) (.int b) H Q := ⟨a, b, rfl, rfl, q⟩
theorem w_rI {C : Int → Int → Prop} {f : Int → Int → V} {a b : Int} (c : C a b) (q : Q (f a b) H) : rI C f (.int a) (.int b) H Q := ⟨a, b, rfl, rfl, c, q⟩
theorem w_rU {f : Int → V} {a : Int} (q : Q (f a) H) : rU f (.int a) H Q := ⟨a, rfl, q⟩
theorem w_rEq (c : scal x y = true) (q : Q (.bl (decide (x = y))) H) : rEq x y H Q := ⟨c, q⟩
theorem w_rNe (c : scal x y = true) (q : Q (.bl (!decide (x = y))) H) : rNe x y H Q := ⟨c, q⟩
theorem w_rEqI {a b : Int} (q : Q (.bl (decide (a = b))) H) : rEq (.int a) (.int b) H Q := ⟨rfl, by
  rw [show decide (V.int a = V.int b) = decide (a = b) by simp]; exact q⟩
theorem w_rNeI {a b : Int} (q : Q (.bl (!decide (a = b))) H) : rNe (.int a) (.int b) H Q := ⟨rfl, by
  rw [show decide (V.int a = V.int b) = decide (a = b) by simp]; exact q⟩
theorem w_ixL {xs : List V} {k : Int} (h : SqL K H p xs) (a : atI xs k = some v) (q : Q v H) : rIxL K (.ref p) (.int k) H Q := ⟨p, xs, k, v, rfl, rfl, h, a, q⟩
theorem w_ixT {xs : List V} {k : Int} (h : SqT K H p xs) (a : atI xs k = some v) (q : Q v H) : rIxT K (.ref p) (.int k) H Q := ⟨p, xs, k, v, rfl, rfl, h, a, q⟩
theorem w_start (e : σ = σ') (h : t D σ' H) : t D σ H := by rw [e]; exact h
theorem w_seq (h : t { D with nx := u D } σ H) : tSeq t u D σ H := h
theorem w_next (h : D.nx σ H) : tNext D σ H := h
theorem w_break (h : D.bk σ H) : tBreak D σ H := h
theorem w_cont (h : D.ct σ H) : tCont D σ H := h
theorem w_drop (h : te σ H fun _ H1 => D.nx σ H1) : tDrop te D σ H := h
theorem w_ret (h : te σ H D.rt) : tRet te D σ H := h
theorem w_asg (h : te σ H fun x H1 => g x σ H1 D.nx) : tAsg te g D σ H := h
theorem w_gname {R : L2.St → Hp → Prop} (e : σ.set i (some v) = σ') (h : R σ' H) : gName i v σ H R := by rw [← e] at h; exact h
theorem w_ifs (h : tt σ H fun b H1 => if b = true then t D σ H1 else u D σ H1) : tIfS tt t u D σ H := h
theorem w_test {R : Bool → Hp → Prop} (h : te σ H fun x H1 => ∃ k, x = .bl k ∧ R k H1) : tTest te σ H R := h
theorem w_B {R : Bool → Hp → Prop} (h : te σ H fun x H1 => ∃ k, x = .bl k ∧ R k H1) : tB te σ H R := h
theorem w_bl {k : Bool} {R : Bool → Prop} (h : R k) : ∃ c, V.bl k = V.bl c ∧ R c := ⟨k, rfl, h⟩
theorem w_tand {R : Bool → Hp → Prop} (h : tt σ H fun c H1 => if c = true then tu σ H1 R else R false H1) : tAnd tt tu σ H R := h
theorem w_tor {R : Bool → Hp → Prop} (h : tt σ H fun c H1 => if c = true then R true H1 else tu σ H1 R) : tOr tt tu σ H R := h
theorem w_tnot {R : Bool → Hp → Prop} (h : tt σ H fun c H1 => R (!c) H1) : tNot tt σ H R := h
theorem w_andV (h : ta σ H fun x H1 => ∃ c, x = .bl c ∧ if c = true then tb σ H1 Q else Q (.bl false) H1) : tAndV ta tb σ H Q := h
theorem w_orV (h : ta σ H fun x H1 => ∃ c, x = .bl c ∧ if c = true then Q (.bl true) H1 else tb σ H1 Q) : tOrV ta tb σ H Q := h
theorem w_notV (h : ta σ H fun x H1 => ∃ c, x = .bl c ∧ Q (.bl (!c)) H1) : tNotV ta σ H Q := h
theorem w_ifV (h : tt σ H fun c H1 => if c = true then ta σ H1 Q else tb σ H1 Q) : tIf tt ta tb σ H Q := h
theorem w_nil {R : List V → Hp → Prop} (h : R [] H) : tNil σ H R := h
theorem w_cons {tr : TA} {R : List V → Hp → Prop} (h : ta σ H fun x H1 => tr σ H1 fun xs H2 => R (x :: xs) H2) : tCons ta tr σ H R := h
theorem w_cb {r : List V → Hp → VK → Prop} {tl : TA} (h : tl σ H fun vs H1 => r vs H1 Q) : tCB r tl σ H Q := h
theorem w_call {sp : Sp} {dvs : List V} {E : XK} {tl : TA} (h : tl σ H fun vs H1 => sp (vs ++ dvs) H1 Q E) : tCall sp dvs E tl σ H Q := h
theorem w_call0 {sp : Sp} {E : XK} {tl : TA} (h : tl σ H fun vs H1 => sp vs H1 Q E) : tCall sp [] E tl σ H Q := by
  unfold tCall
  simp only [List.append_nil]
  exact h
theorem w_tup {tl : TA} (h : tl σ H fun xs H1 => xs.length ≤ sizeLine ∧ ∀ p, H1 p = none → Q (.ref p) (upd H1 p (.tup xs))) : tTup tl σ H Q := h
theorem w_lst {tl : TA} (h : tl σ H fun xs H1 => xs.length ≤ sizeLine ∧ ∀ p, H1 p = none → Q (.ref p) (upd H1 p (.lst xs))) : tLst tl σ H Q := h
def par2 (a b : Nat) (vs : List V) (σ : L2.St) (H : Hp) (R : L2.St → Hp → Prop) : Prop := ∃ v w, vs = [v, w] ∧ R ((σ.set a (some v)).set b (some w)) H
theorem w_par {a b : Nat} {tl : TA} (h : tl σ H fun vs H1 => par2 a b vs σ H1 D.nx) : tPar a b tl D σ H := h
theorem w_par2 {a b : Nat} {v w : V} {R : L2.St → Hp → Prop} (e : (σ.set a (some v)).set b (some w) = σ') (h : R σ' H) : par2 a b [v, w] σ H R := ⟨v, w, rfl, by rw [e]; exact h⟩
theorem w_gtup {n : Nat} {gs : TGs} {xs : List V} {R : L2.St → Hp → Prop} (h : SqT K H p xs) (l : xs.length = n) (q : gs xs σ H R) : gTup K n gs (.ref p) σ H R := ⟨p, xs, rfl, h, l, q⟩
theorem w_gcons {gs : TGs} {vs : List V} {R : L2.St → Hp → Prop} (h : g v σ H fun σ' H' => gs vs σ' H' R) : gCons g gs (v :: vs) σ H R := ⟨v, vs, rfl, h⟩
theorem w_gnil {R : L2.St → Hp → Prop} (h : R σ H) : gNil [] σ H R := ⟨rfl, h⟩
theorem w_gsub {to ti : TE} {ts : TSet} {R : L2.St → Hp → Prop} (h : to σ H fun o H1 => ti σ H1 fun i H2 => ts o i v H2 fun H3 => R σ H3) : gSub to ti ts v σ H R := h
theorem w_setL {xs : List V} {k : Int} {j : Nat} {R : Hp → Prop} (h : H p = some (.lst xs)) (e : ixN xs.length k = some j) (q : R (upd H p (.lst (xs.set j v)))) : rSetL (.ref p) (.int k) v H R := ⟨p, xs, k, j, rfl, rfl, h, e, q⟩
theorem w_rng1 {tl : TA} {R : It → Hp → Prop} (h : tl σ H fun vs H1 => ∃ j : Int, vs = [.int j] ∧ -(2 ^ 62) ≤ j ∧ j < 2 ^ 62 ∧ R (Itr 0 j.toNat) H1) : iRng1 tl σ H R := h
theorem w_rng1' {j : Int} {R : It → Prop} (h1 : -(2 ^ 62) ≤ j) (h2 : j < 2 ^ 62) (h : R (Itr 0 j.toNat)) : ∃ k : Int, [V.int j] = [.int k] ∧ -(2 ^ 62) ≤ k ∧ k < 2 ^ 62 ∧ R (Itr 0 k.toNat) := ⟨j, rfl, h1, h2, h⟩
theorem w_for {wi : TI} {tb' : TS} (h : wi σ H fun J H1 => ∃ W : Nat → Nat → L2.St → Hp → Prop, (∃ m, W 0 m σ H1) ∧ ∀ i m σ H, W i m σ H →
  (J.stop i H ∧ D.nx σ H) ∨ (J.go i H ∧ ∃ N : L2.St → Hp → Prop, (∀ σ' H', N σ' H' → ∃ m', m' < m ∧ W (i + 1) m' σ' H') ∧ ∀ x H', J.yld i H x H' → g x σ H' fun σ2 H2 => tb' { D with nx := N, ct := N, bk := D.nx } σ2 H2)) : tFor wi g tb' D σ H := h
theorem w_bits (h : te σ H fun x H1 => ∃ i, x = .int i ∧ Q (.int (Builtin.Int.intBits i : Nat)) H1) : tBits te σ H Q := h
theorem w_ex1 {a : Int} {R : Int → Prop} (h : R a) : ∃ i, V.int a = V.int i ∧ R i := ⟨a, rfl, h⟩
theorem w_exl {xs : List V} {R : List V → Prop} (h : R xs) : ∃ ys, xs = ys ∧ R ys := ⟨xs, rfl, h⟩
theorem sz4 {n : Nat} (h : n ≤ 1000) : n ≤ sizeLine := Nat.le_trans h (by decide)
theorem w_ixH {xs : List V} {k : Int} (h : H p = some (.lst xs)) (a : atI xs k = some v) (q : Q v H) : rIxL K (.ref p) (.int k) H Q := ⟨p, xs, k, v, rfl, rfl, .inl (.inl h), a, q⟩
theorem w_ixTH {xs : List V} {k : Int} (h : H p = some (.tup xs)) (a : atI xs k = some v) (q : Q v H) : rIxT K (.ref p) (.int k) H Q := ⟨p, xs, k, v, rfl, rfl, .inl (.inl h), a, q⟩
theorem w_gtupH {n : Nat} {gs : TGs} {xs : List V} {R : L2.St → Hp → Prop} (h : H p = some (.tup xs)) (l : xs.length = n) (q : gs xs σ H R) : gTup K n gs (.ref p) σ H R := ⟨p, xs, rfl, .inl (.inl h), l, q⟩
theorem w_setLu {xs ys : List V} {k : Int} {j : Nat} {R : Hp → Prop} {H0 : Hp} (e : ixN xs.length k = some j) (e2 : xs.set j v = ys) (q : R (upd H0 p (.lst ys))) : rSetL (.ref p) (.int k) v (upd H0 p (.lst xs)) R := ⟨p, xs, k, j, rfl, rfl, upd_same, e, by rw [upd_upd, e2]; exact q⟩
theorem w_setLh {xs ys : List V} {k : Int} {j : Nat} {R : Hp → Prop} (h : H p = some (.lst xs)) (e : ixN xs.length k = some j) (e2 : xs.set j v = ys) (q : R (upd H p (.lst ys))) : rSetL (.ref p) (.int k) v H R := ⟨p, xs, k, j, rfl, rfl, h, e, by rw [e2]; exact q⟩
theorem w_lenL {xs : List V} {R : V → Prop} (h : SqL K H p xs) (q : R (.int xs.length)) : ∃ a ys, [V.ref p] = [.ref a] ∧ (SqL K H a ys ∨ SqT K H a ys) ∧ R (.int ys.length) := ⟨p, xs, rfl, .inl h, q⟩
theorem w_lenT {xs : List V} {R : V → Prop} (h : SqT K H p xs) (q : R (.int xs.length)) : ∃ a ys, [V.ref p] = [.ref a] ∧ (SqL K H a ys ∨ SqT K H a ys) ∧ R (.int ys.length) := ⟨p, xs, rfl, .inr h, q⟩
theorem upd_skip {a b : Addr} {o : HO} {u : Option HO} (h : a ≠ b) (e : H a = u) : (upd H b o) a = u := by rw [upd_ne h]; exact e
section
variable {c A B : Prop} [Decidable c]
theorem w_ite (h1 : c → A) (h2 : ¬ c → B) : if decide c = true then A else B := by
  by_cases h : c
  · rw [if_pos (decide_eq_true h)]; exact h1 h
  · rw [if_neg (fun z => h (of_decide_eq_true z))]; exact h2 h
theorem w_iteN (h1 : ¬ c → A) (h2 : c → B) : if (!decide c) = true then A else B := by
  by_cases h : c
  · rw [decide_eq_true h]; exact h2 h
  · rw [decide_eq_false h]; exact h1 h
theorem w_iteT (h : c) (q : A) : if decide c = true then A else B := by rw [if_pos (decide_eq_true h)]; exact q
theorem w_iteF (h : ¬ c) (q : B) : if decide c = true then A else B := by rw [if_neg (fun z => h (of_decide_eq_true z))]; exact q
theorem w_iteNT (h : ¬ c) (q : A) : if (!decide c) = true then A else B := by rw [decide_eq_false h]; exact q
theorem w_iteNF (h : c) (q : B) : if (!decide c) = true then A else B := by rw [decide_eq_true h]; exact q
theorem w_iteb {k : Bool} (h1 : k = true → A) (h2 : k = false → B) : if k = true then A else B := by
  cases k with
  | true => exact h1 rfl
  | false => exact h2 rfl
theorem w_ibT (q : A) : if true = true then A else B := q
theorem w_ibF (q : B) : if false = true then A else B := q
theorem w_ibNT (q : A) : if (!false) = true then A else B := q
theorem w_ibNF (q : B) : if (!true) = true then A else B := q
end
theorem upd_fresh {a b : Addr} {o : HO} (h : H a = none) (h' : H b = some o) {u : HO} (hu : upd H b u a = none) : True := trivial
theorem fresh_of {a b : Addr} {u : HO} (h : (upd H b u) a = none) : a ≠ b ∧ H a = none := by
  by_cases e : a = b
  · subst e; rw [upd_same] at h; cases h
  · rw [upd_ne e] at h; exact ⟨e, h⟩
theorem pick {ns : List Int} {k : Int} (h0 : 0 ≤ k) (h : k < ns.length) : ∃ z, atI (ns.map V.int) k = some (.int z) ∧ z ∈ ns := by
  obtain ⟨j, rfl⟩ := Int.eq_ofNat_of_zero_le h0
  have hj : j < ns.length := by omega
  refine ⟨ns[j], atI_nat (j := j) ?_, List.getElem_mem hj⟩
  rw [List.getElem?_map, List.getElem?_eq_getElem hj]
  rfl
theorem w_isi {c x : V} {ty u : Value} {b : Bool} (hc : ClsV c u) (ht : TyX K H x ty) (e : PySem.W.kitOne K ty u = some b) (q : Q (.bl b) H) : rIsi K [x, c] H Q := ⟨x, c, ty, u, b, rfl, hc, ht, e, q⟩
theorem w_isi_ii {a : Int} (q : Q (.bl true) H) : rIsi K [.int a, .ty "int"] H Q := w_isi (.ty _) (.base (.int _)) (kit_ty (by decide +kernel)) q
theorem w_isi_ib {a : Int} (q : Q (.bl false) H) : rIsi K [.int a, .ty "bool"] H Q := w_isi (.ty _) (.base (.int _)) (kit_ty (by decide +kernel)) q
theorem w_isi_bb {a : Bool} (q : Q (.bl true) H) : rIsi K [.bl a, .ty "bool"] H Q := w_isi (.ty _) (.base (.bl _)) (kit_ty (by decide +kernel)) q
theorem w_isi_bi {a : Bool} (q : Q (.bl true) H) : rIsi K [.bl a, .ty "int"] H Q := w_isi (.ty _) (.base (.bl _)) (kit_ty (by decide +kernel)) q
theorem w_isi_ss {a : Str} (q : Q (.bl true) H) : rIsi K [.str a, .ty "str"] H Q := w_isi (.ty _) (.base (.str _)) (kit_ty (by decide +kernel)) q
theorem w_isi_is {a : Int} (q : Q (.bl false) H) : rIsi K [.int a, .ty "str"] H Q := w_isi (.ty _) (.base (.int _)) (kit_ty (by decide +kernel)) q
theorem w_isi_tt {xs : List V} (h : H p = some (.tup xs)) (q : Q (.bl true) H) : rIsi K [.ref p, .ty "tuple"] H Q := w_isi (.ty _) (.base (.tup h)) (kit_ty (by decide +kernel)) q
theorem w_isi_tl {xs : List V} (h : H p = some (.tup xs)) (q : Q (.bl false) H) : rIsi K [.ref p, .ty "list"] H Q := w_isi (.ty _) (.base (.tup h)) (kit_ty (by decide +kernel)) q
theorem w_isi_ll {xs : List V} (h : H p = some (.lst xs)) (q : Q (.bl true) H) : rIsi K [.ref p, .ty "list"] H Q := w_isi (.ty _) (.base (.lst h)) (kit_ty (by decide +kernel)) q
theorem w_isi_lt {xs : List V} (h : H p = some (.lst xs)) (q : Q (.bl false) H) : rIsi K [.ref p, .ty "tuple"] H Q := w_isi (.ty _) (.base (.lst h)) (kit_ty (by decide +kernel)) q
theorem w_isi_ti {xs : List V} (h : H p = some (.tup xs)) (q : Q (.bl false) H) : rIsi K [.ref p, .ty "int"] H Q := w_isi (.ty _) (.base (.tup h)) (kit_ty (by decide +kernel)) q
theorem w_isi_tb {xs : List V} (h : H p = some (.tup xs)) (q : Q (.bl false) H) : rIsi K [.ref p, .ty "bool"] H Q := w_isi (.ty _) (.base (.tup h)) (kit_ty (by decide +kernel)) q
theorem w_isi_ts {xs : List V} (h : H p = some (.tup xs)) (q : Q (.bl false) H) : rIsi K [.ref p, .ty "str"] H Q := w_isi (.ty _) (.base (.tup h)) (kit_ty (by decide +kernel)) q
theorem w_isi_li {xs : List V} (h : H p = some (.lst xs)) (q : Q (.bl false) H) : rIsi K [.ref p, .ty "int"] H Q := w_isi (.ty _) (.base (.lst h)) (kit_ty (by decide +kernel)) q
theorem w_isi_lb {xs : List V} (h : H p = some (.lst xs)) (q : Q (.bl false) H) : rIsi K [.ref p, .ty "bool"] H Q := w_isi (.ty _) (.base (.lst h)) (kit_ty (by decide +kernel)) q
theorem w_isi_ls {xs : List V} (h : H p = some (.lst xs)) (q : Q (.bl false) H) : rIsi K [.ref p, .ty "str"] H Q := w_isi (.ty _) (.base (.lst h)) (kit_ty (by decide +kernel)) q
theorem w_gcd {a b : Int} (q : Q (.int (Nat.gcd a.natAbs b.natAbs : Nat)) H) : rGcd [.int a, .int b] H Q := ⟨a, b, rfl, q⟩
theorem w_callN {n m : Nat} {sp : Sp} {gV : List V → List V → List V} {E : XK} {t1 t2 : TA} (h : t1 σ H fun vs H1 => t2 σ H1 fun zs H2 => vs.length = n ∧ zs.length = m ∧ sp (gV vs zs) H2 Q E) : tCallN n m sp gV E t1 t2 σ H Q := h
theorem w_callS {sp : Sp} {E : L2.St → XK} {t1 : TA} (h : t1 σ H fun vs H1 => sp vs H1 Q (E σ)) : tCallS sp E t1 σ H Q := h
theorem same_of {H H' : Hp} {p : Addr} {o : HO} (s : Same H H') (n : H' p = none) : Same H (upd H' p o) := fun b x e => by
  rw [upd_ne (ne_of_none (s b x e) n)]
  exact s b x e
theorem same_mut {H H' : Hp} {p : Addr} {o : HO} (s : Same H H') (n : H p = none) : Same H (upd H' p o) := fun b x e => by
  rw [upd_ne (ne_of_none e n)]
  exact s b x e
theorem w_dnew (h : ∀ d, H d = none → Q (.ref d) (upd H d (.dK []))) : tDNewK σ H Q := h
theorem w_dput {td ty tv : TE} (h : tv σ H fun v H1 => td σ H1 fun x H2 => ty σ H2 fun y H3 => ∃ a H4, x = .ref a ∧ DPut H3 a y v H4 ∧ D.nx σ H4) : sDPut td ty tv D σ H := h
theorem w_din {ty td : TE} (h : ty σ H fun y H1 => td σ H1 fun x H2 => ∃ a o, x = .ref a ∧ DGet H2 a y o ∧ Q (.bl o.isSome) H2) : tDIn ty td σ H Q := h
theorem w_dnin {ty td : TE} (h : ty σ H fun y H1 => td σ H1 fun x H2 => ∃ a o, x = .ref a ∧ DGet H2 a y o ∧ Q (.bl (!o.isSome)) H2) : tDNotIn ty td σ H Q := h
theorem w_iTup {tl : TE} {R : It → Hp → Prop} (h : tl σ H fun x H1 => ∃ a, x = .ref a ∧ (∃ xs, SqT K H1 a xs) ∧ R (Itt K a) H1) : iTup K tl σ H R := h
theorem w_iList {tl : TE} {R : It → Hp → Prop} (h : tl σ H fun x H1 => ∃ a, x = .ref a ∧ (∃ xs, SqL K H1 a xs) ∧ R (Itl K a) H1) : iList K tl σ H R := h
theorem w_lc {wi : TI} {ivs : List Nat} (h : wi σ H fun J H1 => ∀ Dl, H1 Dl = none → ∃ W : Nat → Nat → Hp → Prop, (∃ m, W 0 m (upd H1 Dl (.lst []))) ∧ ∀ i m H, W i m H →
  (J.stop i H ∧ Q (.ref Dl) H) ∨ (J.go i H ∧ ∃ Nx : Hp → Prop, (∀ H', Nx H' → ∃ m', m' < m ∧ W (i + 1) m' H') ∧ ∀ x H', J.yld i H x H' → g x (wipe σ ivs) H' fun σ2 H2 => wipe σ2 ivs = wipe σ ivs ∧ tt σ2 H2 fun b H3 =>
    if b = true then te σ2 H3 fun y H4 => ∃ acc, H4 Dl = some (.lst acc) ∧ acc.length < sizeLine ∧ Nx (upd H4 Dl (.lst (acc ++ [y]))) else Nx H3)) : tLc wi g tt te ivs σ H Q := h
theorem w_yes {R : Bool → Hp → Prop} (h : R true H) : tYes σ H R := h
theorem w_opin {neg : Bool} {xs : List V} (hs : SqL K H p xs ∨ SqT K H p xs) (hx : flatV x = true) (ha : xs.all flatV = true) (q : Q (.bl (if neg then !inV x xs else inV x xs)) H) : rIn K neg x (.ref p) H Q := ⟨p, xs, rfl, hs, hx, ha, q⟩
theorem w_isN (q : Q (.bl (decide (x = .non))) H) : (V.non = V.non ∧ Q (.bl (decide (x = .non))) H) := ⟨rfl, q⟩
theorem w_bm {T : String} {r : V → List V → Hp → VK → Prop} {to : TE} {tl : TA} (h : to σ H fun x H1 => tyV K T x H1 ∧ tl σ H1 fun xs H2 => r x xs H2 Q) : tBM K T r to tl σ H Q := h
theorem w_tyL {xs : List V} {R : Prop} (h : H p = some (.lst xs)) (q : R) : tyV K "list" (.ref p) H ∧ R := ⟨Or.inl ⟨rfl, xs, .inl (.inl h)⟩, q⟩
theorem w_app {xs : List V} (h : H p = some (.lst xs)) (l : xs.length < 100000) (q : Q .non (upd H p (.lst (xs ++ [v])))) : rAppend (.ref p) [v] H Q := ⟨p, xs, v, rfl, rfl, h, Nat.lt_of_lt_of_le l (by decide), q⟩
theorem w_bm0 {T : String} {r : V → List V → Hp → VK → Prop} {to : TE} (h : to σ H fun x H1 => tyV K T x H1 ∧ r x [] H1 Q) : tBM0 K T r to σ H Q := h
theorem w_rev {xs : List V} (h : H p = some (.lst xs)) (q : Q .non (upd H p (.lst xs.reverse))) : rReverse (.ref p) [] H Q := ⟨p, xs, rfl, rfl, h, q⟩
/-- pools -/
def IsPool (o : HO) : Prop := ∃ (c k : Int) (b : Bool) (s : Int), o = .lst [.int c, .int k, .bl b, .int s]
theorem upd_of {a b : Addr} {o : HO} (h : H b = none) {u : HO} (e : H a = some u) : (upd H b o) a = some u := by rw [upd_ne (ne_of_none e h)]; exact e
end Z
local macro_rules | `(tactic| walk_at "sz") => `(tactic| first | omega | (split <;> omega) | ((repeat' split) <;> omega) | (simp only [List.length_map]; (repeat' split) <;> omega))
local macro_rules | `(tactic| walk_at "hp") => `(tactic| first
  | assumption
  | exact L2.upd_same
  | ((refine' Z.upd_of ?h1 ?h2); (case h1 => assumption); (case h2 => walk_at "hp"))
  | ((refine' Z.upd_skip ?h1 ?h2); (case h1 => first | assumption | (apply Ne.symm; assumption)); (case h2 => walk_at "hp")))
local macro_rules | `(tactic| walk_at "cond") => `(tactic| first
  | exact L2.wide_mul (a := 200) (b := 200) (by omega) (by omega) (by decide) (by decide) (by decide)
  | exact L2.wide_div (b := 200) (by omega) (by omega) (by decide) (by decide)
  | exact ⟨by omega, by omega⟩
  | omega
  | exact (show (0 : Int) < _ by omega)
  | exact Or.inl ⟨by omega, by omega⟩
  | exact Or.inr ⟨by omega, by omega⟩
  | exact ⟨by omega, by omega, by decide⟩)
local macro_rules | `(tactic| walk_at "same") => `(tactic| first
  | assumption
  | exact L2.Same.refl _
  | (refine Z.same_of ?_ (by assumption); walk_at "same")
  | (refine Z.same_mut ?_ (by assumption); walk_at "same")
  | exact L2.Same.trans (by assumption) (by walk_at "same"))
local macro_rules | `(tactic| walk_at "seq") => `(tactic| first
  | assumption
  | (refine Or.inl (Or.inl ?_); walk_at "hp")
  | ((refine' L2.Same.seq ?se ?sh); (case sh => assumption); (case se => walk_at "same"))
  | ((refine' Evl.ex_t ?se ?sh); (case sh => assumption); (case se => walk_at "same")))
local macro_rules | `(tactic| walk_at "ar") => `(tactic| first
  | omega
  | (simp only [List.length_map, List.length_cons, List.length_nil]; omega))
local macro_rules | `(tactic| walk_at "w1") => `(tactic| first
  | with_reducible refine Z.w_seq ?_
  | with_reducible refine Z.w_asg ?_
  | with_reducible refine Z.w_op ?_
  | ((with_reducible refine' Z.w_var ?wv ?_); case wv => exact rfl)
  | with_reducible refine Z.w_c ?_
  | with_reducible refine Z.w_rI0 ?_
  | ((with_reducible refine' Z.w_gname ?we ?_); case we => (simp only [List.set_cons_zero, List.set_cons_succ] <;> rfl))
  | with_reducible refine Z.w_cons ?_
  | with_reducible refine Z.w_nil ?_
  | with_reducible refine Z.w_ifs ?_
  | with_reducible refine Z.w_test ?_
  | with_reducible refine Z.w_B ?_
  | with_reducible refine Z.w_bl ?_
  | with_reducible refine Z.w_rEqI ?_
  | with_reducible refine Z.w_rNeI ?_
  | with_reducible refine Z.w_cb ?_
  | with_reducible refine Z.w_call0 ?_
  | with_reducible refine Z.w_call ?_
  | with_reducible refine Z.w_isi_ii ?_
  | with_reducible refine Z.w_isi_ib ?_
  | with_reducible refine Z.w_isi_bb ?_
  | with_reducible refine Z.w_isi_bi ?_
  | with_reducible refine Z.w_isi_ss ?_
  | with_reducible refine Z.w_isi_is ?_
  | ((with_reducible refine' Z.w_isi_tt ?wh ?_); (case wh => walk_at "hp"))
  | ((with_reducible refine' Z.w_isi_tl ?wh ?_); (case wh => walk_at "hp"))
  | ((with_reducible refine' Z.w_isi_ll ?wh ?_); (case wh => walk_at "hp"))
  | ((with_reducible refine' Z.w_isi_lt ?wh ?_); (case wh => walk_at "hp"))
  | ((with_reducible refine' Z.w_isi_ti ?wh ?_); (case wh => walk_at "hp"))
  | ((with_reducible refine' Z.w_isi_tb ?wh ?_); (case wh => walk_at "hp"))
  | ((with_reducible refine' Z.w_isi_ts ?wh ?_); (case wh => walk_at "hp"))
  | ((with_reducible refine' Z.w_isi_li ?wh ?_); (case wh => walk_at "hp"))
  | ((with_reducible refine' Z.w_isi_lb ?wh ?_); (case wh => walk_at "hp"))
  | ((with_reducible refine' Z.w_isi_ls ?wh ?_); (case wh => walk_at "hp"))
  | with_reducible refine Z.w_tand ?_
  | with_reducible refine Z.w_tor ?_
  | with_reducible refine Z.w_tnot ?_
  | with_reducible refine Z.w_ret ?_
  | with_reducible refine Z.w_next ?_
  | with_reducible refine Z.w_un ?_
  | with_reducible refine Z.w_rU ?_
  | with_reducible refine Z.w_tup ?_
  | with_reducible refine Z.w_lst ?_
  | with_reducible refine Z.w_par ?_
  | ((with_reducible refine' Z.w_par2 ?we ?_); case we => (simp only [List.set_cons_zero, List.set_cons_succ] <;> rfl))
  | with_reducible refine Z.w_gsub ?_
  | with_reducible refine Z.w_andV ?_
  | with_reducible refine Z.w_orV ?_
  | with_reducible refine Z.w_notV ?_
  | with_reducible refine Z.w_ifV ?_
  | with_reducible refine Z.w_drop ?_
  | with_reducible refine Z.w_break ?_
  | with_reducible refine Z.w_cont ?_
  | with_reducible refine Z.w_gcons ?_
  | with_reducible refine Z.w_gnil ?_
  | with_reducible refine Z.w_for ?_
  | with_reducible refine Z.w_rng1 ?_
  | with_reducible refine Z.w_bits ?_
  | with_reducible refine Z.w_callN ?_
  | with_reducible refine Z.w_callS ?_
  | with_reducible refine Z.w_gcd ?_
  | with_reducible refine Z.w_dnew (fun d hd => ?_)
  | with_reducible refine Z.w_dput ?_
  | with_reducible refine Z.w_din ?_
  | with_reducible refine Z.w_dnin ?_
  | with_reducible refine Z.w_iTup ?_
  | with_reducible refine Z.w_iList ?_
  | with_reducible refine Z.w_lc ?_
  | with_reducible refine Z.w_yes ?_
  | ((with_reducible refine' ⟨_, rfl, ⟨_, ?wh⟩, ?_⟩); (case wh => walk_at "seq"))
  | with_reducible refine Z.w_ex1 ?_
  | ((with_reducible refine' Z.w_ixH ?wh ?wa ?_); (case wh => walk_at "hp"); (case wa => exact rfl))
  | ((with_reducible refine' Z.w_ixTH ?wh ?wa ?_); (case wh => walk_at "hp"); (case wa => exact rfl))
  | ((with_reducible refine' Z.w_gtupH ?wh ?wa ?_); (case wh => walk_at "hp"); (case wa => exact rfl))
  | ((with_reducible refine' Z.w_setLu ?wh ?wa ?_); (case wh => exact rfl); (case wa => (simp only [Int.reduceToNat, List.set_cons_zero, List.set_cons_succ] <;> rfl)))
  | ((with_reducible refine' Z.w_setLh ?wg ?wh ?wa ?_); (case wg => walk_at "hp"); (case wh => exact rfl); (case wa => (simp only [Int.reduceToNat, List.set_cons_zero, List.set_cons_succ] <;> rfl)))
  | ((with_reducible refine Z.w_rI ?wc ?_); (case wc => walk_at "cond"))
  | with_reducible refine Or.inl ⟨_, rfl, ?_⟩
  | with_reducible refine Or.inr ⟨_, rfl, ?_⟩
  | ((with_reducible refine' ⟨_, _, rfl, Or.inl ?wh, ?_⟩); (case wh => walk_at "seq"))
  | ((with_reducible refine' ⟨_, _, rfl, Or.inr ?wh, ?_⟩); (case wh => walk_at "seq"))
  | ((with_reducible refine' Z.w_ixL ?wh ?wa ?_); (case wh => assumption); (case wa => assumption))
  | with_reducible refine ⟨_, rfl, ?_⟩
  | with_reducible refine ⟨_, _, rfl, ?_⟩
  | ((with_reducible refine ⟨?wl, fun q hq' => ?_⟩); (case wl => exact Z.sz4 (by simp)))
  | with_reducible refine Z.w_ibT ?_
  | with_reducible refine Z.w_ibF ?_
  | with_reducible refine Z.w_ibNT ?_
  | with_reducible refine Z.w_ibNF ?_
  | ((with_reducible refine Z.w_iteT ?wh ?_); (case wh => walk_at "ar"))
  | ((with_reducible refine Z.w_iteF ?wh ?_); (case wh => walk_at "ar"))
  | ((with_reducible refine Z.w_iteNT ?wh ?_); (case wh => walk_at "ar"))
  | ((with_reducible refine Z.w_iteNF ?wh ?_); (case wh => walk_at "ar"))
  | with_reducible refine ⟨rfl, ?_⟩
  | ((with_reducible refine' Z.w_ixH ?wh ?wa ?_); (case wh => walk_at "hp"); (case wa => assumption))
  | ((with_reducible refine' Z.w_ixTH ?wh ?wa ?_); (case wh => walk_at "hp"); (case wa => assumption))
  | ((with_reducible refine' Z.w_ixL ?wh ?wa ?_); (case wh => walk_at "seq"); (case wa => assumption))
  | ((with_reducible refine' Z.w_ixT ?wh ?wa ?_); (case wh => walk_at "seq"); (case wa => assumption))
  | ((with_reducible refine Z.w_iteF ?wh ?_); (case wh => (intro h; cases h; done)))
  | ((with_reducible refine Z.w_iteT ?wh ?_); (case wh => exact rfl))
  | fail "w1")
local macro_rules | `(tactic| walk_at "wi") => `(tactic| first
  | with_reducible refine Z.w_ite (fun hc => ?_) (fun hc => ?_)
  | with_reducible refine Z.w_iteN (fun hc => ?_) (fun hc => ?_)
  | with_reducible refine Z.w_iteb (fun hc => ?_) (fun hc => ?_))
local macro_rules | `(tactic| walk_at "w") => `(tactic| repeat' walk_at "w1")
namespace X2
open PySem PySem.Spec PyProof.Rows L2
/-! exceptions of own classes over an own base, with an __init__ that calls the base's and keeps one field -/
/-- what the text leaves of such a class C, its __init__ at fI, its field n -/
structure XO (K : PySem.W.Frag) (C fI : Addr) (n : Str) : Prop where
  ox : OexC K C
  xc : ExcC K C
  no : PySem.W.findIn K (.ref C) n = some none
  ii : PySem.W.findIn K (.ref C) "__init__" = some (some (.ref fI))
  ti : PySem.W.typeIn K (.ref fI) = some (.type "function")
theorem XO.xf {K : PySem.W.Frag} {C fI : Addr} {n : Str} (T : XO K C fI n) : XfC K C := ⟨T.xc.hg, T.xc.hk, T.xc.hs, T.xc.hd⟩
/-- the base B, whose __init__ is ValueError's -/
structure XB (K : PySem.W.Frag) (B : Addr) : Prop where
  rd : PySem.W.readsIn K B (.type "type") = true
  ga : PySem.W.specialIn K (.ref B) "__getattribute__" = some (some (.builtin "type.__getattribute__"))
  vi : PySem.W.findCls K (.ref B) (.type "type") "__init__" = some (.val (.builtin "ValueError.__init__"))
section
variable {X : Cx} {e : Expr} {es : List Expr} {ta : TA} {p1 p2 pos : Pos} {x : Str} {B : Addr}
/-- B.__init__(self, ..) -/
theorem pe_binit {pl : Sem Bool} (hg : Gl X x) (hm : X.mg x = some (.ref B)) (T : XB X.K B) (ha : PA X (e :: es) ta)
    (hdb : (x == ("__debug__" : Str)) = false := by decide)
    (hc : eval (.Call (.Attribute (.Name x p1) "__init__" p2) (e :: es) [] pos) X.env = (do
      let bv ← eval (.Name x p1) X.env
      standAt p2.atName
      let (fn, fst) ← holding [bv] (getMethod bv "__init__" pl)
      callWith pos fn fst (backTo pos (starEach (e :: es) X.env)) (backToKw pos (keywordEach [] X.env))) := by rfl)
    (he : starEach (e :: es) X.env = (false, eval e X.env) :: starEach es X.env := by rfl) (hpl : (backTo pos (starEach es X.env)).any (·.1) = false := by rfl) :
    PE X (.Call (.Attribute (.Name x p1) "__init__" p2) (e :: es) [] pos) (tVeI X.K ta) := by
  refine ⟨fun pins s σ H Q I h => ?_⟩
  refine PySem.W.methodCall_KW (ld_glob I hg hm ?_ hdb) hc
  refine PySem.W.method_cls I.kIn T.ga (PySem.W.cls_value I.kIn T.rd T.vi (by decide +kernel) ?_)
  show wpAny _ _ (callWith pos (Value.builtin "ValueError.__init__") [] (backTo pos (starEach (e :: es) X.env)) []) _ _ _
  refine PyProof.Rows.callWith_method1 (thn (ha.run pos pins _ σ H _ (I.tok _) h) fun us s1 hh => ?_) he hpl
  obtain ⟨vs, H1, I1, r1, a, C, ws, ev, hl, TC, ea, q⟩ := hh
  subst ev
  cases r1 with
  | @cons _ u0 _ ur ra rw' =>
    obtain rfl : u0 = Value.ref a := ra
    have hz : ur.length ≤ sizeLine := by
      rw [← Paired.length rw', sizeLine_eq]
      omega
    exact oinit_ok TC I1 ea hz fun s' J => ⟨.non, H1, J, rfl, q⟩
end
/-- isinstance(e, c), e the exception that the suite holds, with or without a dict -/
def hasD (H : Hp) (d : Option Addr) : Prop := d = none ∨ ∃ dd fs, d = some dd ∧ H dd = some (.xd fs)
def rIsX1 (K : PySem.W.Frag) (a : Addr) (cls : Value) (d : Option Addr) : List V → Hp → VK → Prop := fun xs H Q => ∃ (D : Addr) (c : V) (cv : Value) (b : Bool), cls = .ref D ∧ hasD H d ∧ ExcC K D ∧ xs = [.ref a, c] ∧ ClsV c cv ∧ PySem.W.kitOne K (.ref D) cv = some b ∧ Q (.bl b) H
def rIsXT (K : PySem.W.Frag) (a : Addr) (cls : Value) (d : Option Addr) : List V → Hp → VK → Prop := fun xs H Q => ∃ (D tp : Addr) (cs : List V) (us : List Value) (b : Bool), cls = .ref D ∧ hasD H d ∧ ExcC K D ∧ xs = [.ref a, .ref tp] ∧ H tp = some (.tup cs) ∧ Paired ClsV cs us ∧ PySem.W.kitAny K (.ref D) us = some b ∧ Q (.bl b) H
theorem isx_at {X : Cx} {pins : List (Addr × Obj)} {σ : L2.St} {H : Hp} {s : Shared} {a D : Addr} {d : Option Addr} {oe : Obj} (I : Inv X pins σ H s) (hz : Zc (.ref D) d oe) (hf : ∃ vs, oe.data = .fields vs) (hget : s.heap.get? a = some oe) (hd : hasD H d) : ∃ od, PySem.W.InstAt s.heap a oe D od := by
  obtain ⟨vs, hv⟩ := hf
  rcases hd with e | ⟨dd, fs, e, ha⟩
  · subst e
    refine ⟨none, hget, hz.1, by unfold PySem.W.notCls; rw [hv] <;> rfl, ?_⟩
    rw [hz.2]
    trivial
  · subst e
    have ok : ObjOk X.prog X.w H s.heap dd (.xd fs) := I.hok dd _ ha
    obtain ⟨mA, hns, hr⟩ := ok
    obtain ⟨od, ho, hl⟩ := lookIn_ns hns
    refine ⟨some od, hget, hz.1, by unfold PySem.W.notCls; rw [hv] <;> rfl, ?_⟩
    rw [hz.2]
    exact ho
theorem xc_cls {K : PySem.W.Frag} {D : Addr} (C : ExcC K D) : (PySem.W.clsIn K D).isSome = true := by
  obtain ⟨cd, hc, _⟩ := PySem.W.any_some C.hd
  rw [hc]
  rfl
theorem call_isX1 {X : Cx} {a : Addr} {cls : Value} {d : Option Addr} {oe : Obj} {pn : List (Addr × Obj)} (hz : Zc cls d oe) (hf : ∃ vs, oe.data = .fields vs) : CallR (X.suite a ((a, oe) :: pn)) (.builtin "isinstance") (rIsX1 X.K a cls d) := by
  intro pins s σ H xs us Q I r h
  obtain ⟨D, c, cv, b, rfl, hd, C, rfl, k, e, q⟩ := h
  obtain ⟨u1, u2, rfl, r1, r2⟩ := vals2 r
  cases (show u1 = Value.ref a from r1)
  have e2 := k.eq r2
  subst e2
  obtain ⟨hget, _⟩ := I.pin (a, oe) (List.mem_append.mpr (.inl List.mem_cons_self))
  obtain ⟨od, J⟩ := isx_at I hz hf hget hd
  exact PySem.W.kia_one (PySem.W.kitx_exc (xc_cls C) C.hg C.hk C.hs C.ha C.hn C.ht C.hm) I.kIn J e (fun z => nomatch z) fun tk => ⟨.bl b, H, I.kept (t' := tk) fun _ _ z => z, rfl, q⟩
theorem call_isXT {X : Cx} {a : Addr} {cls : Value} {d : Option Addr} {oe : Obj} {pn : List (Addr × Obj)} (hz : Zc cls d oe) (hf : ∃ vs, oe.data = .fields vs) : CallR (X.suite a ((a, oe) :: pn)) (.builtin "isinstance") (rIsXT X.K a cls d) := by
  intro pins s σ H xs us Q I r h
  obtain ⟨D, tp, cs, ws, b, rfl, hd, C, rfl, hT, k, e, q⟩ := h
  obtain ⟨u1, u2, rfl, r1, r2⟩ := vals2 r
  cases (show u1 = Value.ref a from r1)
  cases (show u2 = Value.ref tp from r2)
  obtain ⟨hget, _⟩ := I.pin (a, oe) (List.mem_append.mpr (.inl List.mem_cons_self))
  obtain ⟨_, its, rv, o, h1, h2, n, h3⟩ := (show ObjOk X.prog X.w H s.heap tp (.tup cs) from I.hok tp _ hT)
  have e3 := ClsV.all k rv
  subst e3
  obtain ⟨od, J⟩ := isx_at I hz hf hget hd
  obtain ⟨oc, od', dt, sl⟩ := o
  simp only at h2 h3
  subst h2 h3
  exact PySem.W.kia_tup (PySem.W.kitx_exc (xc_cls C) C.hg C.hk C.hs C.ha C.hn C.ht C.hm) I.kIn J h1 e (fun z => nomatch z) fun tk => ⟨.bl b, H, I.kept (t' := tk) fun _ _ z => z, rfl, q⟩
section
variable {K : PySem.W.Frag} {a D dd : Addr} {fs : List (Str × V)} {H : Hp} {Q : VK} {b : Bool}
theorem w_isX1 {c : V} {cv : Value} (C : ExcC K D) (hd : H dd = some (.xd fs)) (k : ClsV c cv) (e : PySem.W.kitOne K (.ref D) cv = some b) (q : Q (.bl b) H) : rIsX1 K a (.ref D) (some dd) [.ref a, c] H Q := ⟨D, c, cv, b, rfl, .inr ⟨dd, fs, rfl, hd⟩, C, rfl, k, e, q⟩
theorem w_isXT {tp : Addr} {cs : List V} {us : List Value} (C : ExcC K D) (hd : H dd = some (.xd fs)) (hT : H tp = some (.tup cs)) (k : Paired ClsV cs us) (e : PySem.W.kitAny K (.ref D) us = some b) (q : Q (.bl b) H) : rIsXT K a (.ref D) (some dd) [.ref a, .ref tp] H Q := ⟨D, tp, cs, us, b, rfl, .inr ⟨dd, fs, rfl, hd⟩, C, rfl, hT, k, e, q⟩
theorem w_xfv {C : Addr} {f : Str} {v : V} {σ : L2.St} {i : Nat} (hs : σ[i]? = some (some (.ref a))) (hd : H dd = some (.xd fs)) (hl : fs.lookup f = some v) (q : Q v H) : tXf a (.ref C) (some dd) C f (tVar i) σ H Q := ⟨_, hs, rfl, rfl, dd, fs, v, rfl, hd, hl, q⟩
end
/-- what C(v) leaves: a new dict with the one field -/
def InitEnd (C : Addr) (n : Str) (v : V) : Sp := fun vs H Q _ => ∃ a, vs = [.ref a, v] ∧ H a = some (exo a C none) ∧ ∀ dx, H dx = none → dx ≠ a → Q .non (upd (upd H dx (exd dx [(n, v)])) a (exo a C (some dx)))
section
variable {K : PySem.W.Frag} {σ : L2.St} {H : Hp} {Q : VK} {ta : TA} {D : Ends} {te t : TE} {ts : List TE} {acc : Str}
def rVeI (K : PySem.W.Frag) : List V → Hp → VK → Prop := fun vs H1 Q => ∃ (a C : Addr) (ws : List V), vs = .ref a :: ws ∧ ws.length ≤ 1000 ∧ OexC K C ∧ H1 a = some (exo a C none) ∧ Q .non H1
theorem w_veI (h : ta σ H fun vs H1 => rVeI K vs H1 Q) : tVeI K ta σ H Q := h
theorem use_veI {a C : Addr} {x : V} (T : OexC K C) (h : H a = some (exo a C none)) (q : Q .non H) : rVeI K [.ref a, x] H Q := ⟨a, C, [x], rfl, by simp, T, h, q⟩
theorem w_js {R : Str → Hp → Prop} (h : t σ H fun x H1 => ∃ y : Str, x = .str y ∧ (acc ++ y).length ≤ sizeLine ∧ tJs ts (acc ++ y) σ H1 R) : tJs (t :: ts) acc σ H R := h
theorem w_jn {R : Str → Hp → Prop} (h : R acc H) : tJs [] acc σ H R := h
theorem w_fmtI {i : Int} {j : Nat} (e : σ[j]? = some (some (.int i))) (hi : i.natAbs.log2 < 1920) (q : Q (.str (toString i)) H) : tFmtR (tVar j) σ H Q := ⟨_, e, .inr ⟨i, rfl, hi, q⟩⟩
theorem w_fmtS {y : Str} {j : Nat} (e : σ[j]? = some (some (.str y))) (hy : (reprText y).length ≤ sizeLine) (q : Q (.str (reprText y)) H) : tFmtR (tVar j) σ H Q := ⟨_, e, .inl ⟨y, rfl, hy, q⟩⟩
/-- self.f = e, the first and only one -/
theorem w_ost {f : Str} {to : TE} {a C : Addr} {y : V} {j k : Nat} (e1 : σ[k]? = some (some y)) (e2 : σ[j]? = some (some (.ref a))) (T : OexC K C) (no : PySem.W.findIn K (.ref C) f = some none) (h : H a = some (exo a C none)) (q : ∀ dx, H dx = none → dx ≠ a → D.nx σ (upd (upd H dx (exd dx [(f, y)])) a (exo a C (some dx)))) :
    tOst K f (tVar j) (tVar k) D σ H := ⟨y, e1, .ref a, e2, a, C, rfl, T, no, .inl ⟨h, q⟩⟩
theorem len_cat {x y : Str} {m n : Nat} (h1 : x.length ≤ m) (h2 : y.length ≤ n) : (x ++ y).length ≤ m + n := by
  have e : (x ++ y).length = x.length + y.length := by
    rw [TL.len_tl, TL.tl_append, List.length_append, ← TL.len_tl, ← TL.len_tl]
  omega
theorem len_int {i : Int} (h : i.natAbs < 10 ^ 60) : (Str.ofString (toString i)).length ≤ 61 := by
  by_cases hn : i < 0
  · have k := TL.numL_len (n := (0 - i).natAbs) (k := 60) (by decide) (by omega)
    have e : 0 - i = (((0 - i).natAbs : Nat) : Int) := by omega
    rw [PyProof.Rows.len_text_neg hn, e, TL.len_tl, TL.tl_num]
    omega
  · have k := TL.numL_len (n := i.natAbs) (k := 60) (by decide) h
    have e : i = ((i.natAbs : Nat) : Int) := by omega
    rw [e, TL.len_tl, TL.tl_num]
    omega
theorem log_int {i : Int} (h : i.natAbs < 10 ^ 60) : i.natAbs.log2 < 1920 := by
  have k : i.natAbs.log2 < 200 := PySem.Flt.log2_lt_of (by decide) (show i.natAbs < 2 ^ 200 by omega)
  omega
end
def rMk (C : Addr) (sp : Sp) : List V → Hp → XK → Prop := fun vs H1 Q => vs.length ≤ 1000 ∧ ∀ a, H1 a = none → sp (.ref a :: (vs ++ [])) (upd H1 a (exo a C none))
  (fun v H2 => v = .non ∧ ∃ (d : Addr) (fs : List (Str × V)), H2 a = some (exo a C (some d)) ∧ H2 d = some (exd d fs) ∧ H1 d = none ∧ Q (.ref C) (some d) (upd (del H2 a) d (.xd fs))) (fun _ _ _ => False)
theorem w_mkO {C : Addr} {sp : Sp} {ta : TA} {σ : L2.St} {H : Hp} {Q : XK} (h : ta σ H fun vs H1 => rMk C sp vs H1 Q) : tMkO C sp [] ta σ H Q := h
theorem use_mk {C : Addr} {n : Str} {v : V} {sp : Sp} {H1 : Hp} {Q : XK} (hsp : ∀ (vs : List V) (H : Hp) (Q : VK) (E : XK), InitEnd C n v vs H Q E → sp vs H Q E) (q : ∀ d, H1 d = none → Q (.ref C) (some d) (upd H1 d (.xd [(n, v)]))) : rMk C sp [v] H1 Q := by
  refine ⟨by simp, fun a ha => hsp _ _ _ _ ⟨a, rfl, upd_same, fun dx h1 h2 => ⟨rfl, dx, _, upd_same, by rw [upd_ne h2, upd_same], ?_, ?_⟩⟩⟩
  · rw [upd_ne h2] at h1
    exact h1
  · have h3 : H1 dx = none := by rw [upd_ne h2] at h1; exact h1
    have e : upd (del (upd (upd (upd H1 a (exo a C none)) dx (exd dx [(n, v)])) a (exo a C (some dx))) a) dx (.xd [(n, v)]) = upd H1 dx (.xd [(n, v)]) := by
      funext b
      by_cases hb : b = dx
      · rw [hb, upd_same, upd_same]
      · rw [upd_ne hb, upd_ne hb]
        by_cases hba : b = a
        · rw [hba, del_same, ha]
        · rw [del_ne hba, upd_ne hba, upd_ne hb, upd_ne hba]
    rw [e]
    exact q dx h3
end X2

namespace L2
open PySem PySem.Spec PyProof.Rows
/-- the signs of a text, each in a new pair with its place -/
def Itse (x : Str) : It :=
  ⟨fun i _ => i < x.cps.size, fun i H v H' => ∃ T c, v = .ref T ∧ H T = none ∧ H' = upd H T (.tup [.int (i : Nat), .str ⟨#[c]⟩]) ∧ x.cps[i]? = some c, fun i _ => i = x.cps.size⟩
theorem turn_enumS {P : Program} {w : World} {K : PySem.W.Frag} {elts : List Expr} {kk : Nat} {tpos : Pos} (x : Str) (t : Tok) (e it : Addr) :
    Turn P w K (.Tuple elts kk tpos) (Itse x) [e, it] e (fun i h => (∃ old, IsEnum h e it ((i : Nat) : Int) old) ∧ h.IsStrIter it (strIterType x) x t i ∧ e ≠ it) where
  mem := by simp
  obj := fun i h st b hb => by
    obtain ⟨⟨old, he⟩, ⟨o, ho, hc, hd⟩, _⟩ := st
    have e' : b = e ∨ b = it := by simpa using hb
    rcases e' with z | z
    · rw [z]; exact ⟨_, he, fun v q => nomatch q⟩
    · rw [z]; exact ⟨o, ho, fun v q => by rw [hd] at q; cases q⟩
  keep := fun i h h' st k => let ⟨⟨old, he⟩, ⟨o, ho, r⟩, hne⟩ := st; ⟨⟨old, k e (by simp) _ he⟩, ⟨o, k it (by simp) o ho, r⟩, hne⟩
  item := by
    intro X hP hw hK hc i pins s σ H E I hf st hg
    subst hP hw hK
    obtain ⟨⟨old, he⟩, hit, hne⟩ := st
    have hel : e < s.heap.objs.size := Heap.lt_size he
    have hil : it < s.heap.objs.size := by obtain ⟨_, q, _⟩ := hit; exact Heap.lt_size q
    have D := Draws.text (prog := X.prog) (w := X.w) (A := X.A.in1) (I.ok.hd hc) it x t
    refine wpAny_pyNext_enum_itemD D he hit hg hne (by simpa using hne) fun y h' tk hP ho hit' hT hsz hk => ?_
    obtain ⟨c, u, hcx, rfl⟩ := hP
    refine ⟨_, rfl, wpAny_letOwnedTupleGo_enum (s := { s with heap := h', toks := tk + 1 }) ho fun h'' he' sb => ?_⟩
    have hT2 : h''.get? s.heap.objs.size = some { cls := .type "tuple", data := .seq #[.int i tk, .str ⟨#[c]⟩ u] } := (sb.2 _ (Nat.ne_of_gt hel)).trans hT
    have new : ObjOk X.prog X.w (upd H s.heap.objs.size (.tup [.int (i : Nat), .str ⟨#[c]⟩])) h'' s.heap.objs.size (.tup [.int (i : Nat), .str ⟨#[c]⟩]) :=
      ⟨by show 2 ≤ sizeLine; decide, [.int i tk, .str ⟨#[c]⟩ u], .cons ⟨_, rfl⟩ (.cons ⟨_, rfl⟩ .nil), ⟨_, hT2, rfl, _, rfl⟩⟩
    have I1 : Inv X pins σ (upd H s.heap.objs.size (.tup [.int (i : Nat), .str ⟨#[c]⟩])) { s with heap := h'', toks := tk + 1 } :=
      I.turnedNew (ch := [e, it]) (fun b ob hb q => (sb.2 b (fun z => hb (by simp [z]))).trans (hk b ob (fun z => hb (by simp [z])) (fun z => hb (by simp [z])) q)) hf (Nat.le_refl _) new
    refine ⟨.ref s.heap.objs.size, _, I1, rfl, ⟨_, c, rfl, I.hok.fresh (Nat.le_refl _), rfl, hcx⟩, ⟨⟨.str ⟨#[c]⟩ u, ?_⟩, ?_, hne⟩, fun b hb => ?_⟩
    · have e1 : ((i + 1 : Nat) : Int) = (i : Int) + 1 := by omega
      rw [e1]; exact he'
    · obtain ⟨o, ho, r⟩ := hit'
      exact ⟨o, (sb.2 it (Ne.symm hne)).trans ho, r⟩
    · have hb' : b < s.heap.objs.size := by
        have e' : b = e ∨ b = it := by simpa using hb
        rcases e' with z | z
        · rw [z]; exact hel
        · rw [z]; exact hil
      rw [upd_ne (Nat.ne_of_lt hb')]
      exact (hf b hb).1
  done := by
    intro X hP hw hK hc i pins s σ H E I hf st hg
    subst hP hw hK
    obtain ⟨⟨old, he⟩, hit, hne⟩ := st
    have hg' : i = x.cps.size := hg
    subst hg'
    obtain ⟨f0, f1, f2, f3, f4, f5⟩ := hf it (by simp)
    have D := Draws.text (prog := X.prog) (w := X.w) (A := X.A.in1) (I.ok.hd hc) it x t
    exact wpAny_pyNext_enum_endD D he hit fun h' eb => ⟨rfl, I.turned (t' := s.toks) (fun b o hb q => eb b o hb q) f0 f1 f3 f4 f5⟩
  self := fun A i s Q E st h => let ⟨⟨_, he⟩, _⟩ := st; wpAny_pyIter_enum he h
def iEnumS (ta : TA) : TI := fun σ H R => ta σ H fun vs H1 => ∃ x, vs = [.str x] ∧ R (Itse x) H1
theorem pi_enumS {X : Cx} {e : Expr} {ta : TA} {p pos tpos : Pos} {elts : List Expr} {kk : Nat} (hg : Gl X "enumerate") (hm : X.mg "enumerate" = none) (ha : PA X [e] ta) (hs : starEach [e] X.env = [(false, eval e X.env)] := by rfl) :
    PI X (.Tuple elts kk tpos) (.Call (.Name "enumerate" p) [e] [] pos) (iEnumS ta) := by
  refine ⟨fun pins s σ H R I h => ?_⟩
  refine Call_ (ld_blt I hg hm boot_enumerate (PyProof.Rows.callWith_type1 (thn (ha.run pos pins s σ H _ I h) fun us s1 ⟨vs, H1, I1, r1, q1⟩ => ?_) hs rfl))
  obtain ⟨x, ex, q⟩ := q1
  subst ex
  cases r1 with
  | cons r rr =>
    cases rr
    obtain ⟨t, rfl⟩ := r
    refine call_enumerate_str fun h' he hit hsz hk => wpAny_pyIter_enum he ?_
    have I2 : Inv X pins σ H1 { s1 with heap := h' } := I1.kept (t' := s1.toks) hk
    refine ⟨s1.heap.objs.size + 1, [s1.heap.objs.size + 1, s1.heap.objs.size], _, _, H1, rfl, I2, turn_enumS x t (s1.heap.objs.size + 1) s1.heap.objs.size, ⟨⟨.none, he⟩, hit, Nat.succ_ne_self _⟩, fun b hb => ?_, q⟩
    have e' : b = s1.heap.objs.size + 1 ∨ b = s1.heap.objs.size := by simpa using hb
    have hle : s1.heap.objs.size ≤ b := by
      rcases e' with z | z
      · rw [z]; exact Nat.le_add_right _ _
      · rw [z]; exact Nat.le_refl _
    exact I1.fpOk hle (I1.hok.fresh hle)
theorem walk_enumS {z : Str} : Walk (Itse z) z.cps.size (fun _ => True) (fun i H v H' => ∃ T c, v = .ref T ∧ H T = none ∧ H' = upd H T (.tup [.int (i : Nat), .str ⟨#[c]⟩]) ∧ z.cps[i]? = some c) :=
  ⟨fun _ _ hi _ => hi, fun _ _ => rfl, fun _ _ _ _ _ _ y => y⟩
end L2

namespace LR
open PySem PySem.Spec PyProof.Rows L2 RT
section
variable {prog : Program} {w : World} {A : Around} {E : Value → Shared → Prop} {s : Shared}
theorem extend_rev {R : Result → Shared → Prop} (hh : A.handled = none) {it l S : Addr} {items : Array Value} {c0 : Nat} (res : Value) (hit : s.heap.IsRevIter it l ((items.size : Int) - 1)) (hl : s.heap.IsList l items) (hne : l ≠ it) (hSi : S ≠ it) (hSl : S ≠ l) (hn : items.size ≤ sizeLine)
    (hS : s.heap.get? S = some { cls := .type "list", data := .seq #[] c0 })
    (hR : ∀ h' tk acc c', (∀ b o, b ≠ S → b ≠ it → s.heap.get? b = some o → h'.get? b = some o) → h'.get? S = some { cls := .type "list", dict := none, data := .seq acc c', slots := #[] } →
      ItemsOf (fun i v => items[items.size - 1 - i]? = some v) acc items.size → R (.ok (.ret res)) { s with heap := h', toks := tk }) :
    wpAny (model prog w) A.in1 (Builtin.List.listExtendWith (.ref S) (.ref it) res)
      (fun fin s' => match fin with | .done f => R (.ok f) s' | .again c' => c'.quiet = true ∧ codeAny (model prog w) A c' R s') (fun e s' => R (.error e) s') s := by
  have W := (Walks.listRev (prog := prog) (w := w) (A := A.in1) hh it l hne items).toS
  have hSf : S ∉ [it, l] := by simp only [List.mem_cons, List.not_mem_nil, or_false, not_or]; exact ⟨hSi, hSl⟩
  have hT : s.TypeIs (.ref it) "list_reverseiterator" := hit.typeIs
  have h1 : Builtin.List.listSameRef (.ref S) (.ref it) = false := by simp [Builtin.List.listSameRef, hSi]
  unfold Builtin.List.listExtendWith
  refine wpAny_bind (wpAny_typeOf hT ?_)
  rw [if_neg (by rw [h1]; decide)]
  refine wpAny_bind (wpAny_pyIter_revIter hit ?_)
  refine wpAny_bind (wpAny_holding ?_)
  unfold Builtin.List.listLengthHint
  refine wpAny_bind (wpAny_specialOf hT nolen_lri ?_)
  show wpAny _ A.in1 (specialOf (Value.ref it) (Str.ofString "__length_hint__") >>= _) _ _ _
  refine wpAny_bind (wpAny_specialOf hT hint_lri ?_)
  generalize hid : ("list_reverseiterator.__length_hint__" : String) = id0
  wp_delta
  rw [show splitId id0 = some ("list_reverseiterator", "__length_hint__") from by subst hid; decide +kernel]
  subst hid
  refine wpAny_bind (wpAny_isInstance (b := true) hT (by rw [isSubtype_type]; kernel_rfl) ?_)
  refine wpAny_pure ?_
  rw [if_neg (by decide)]
  have e0 : ((items.size : Nat) : Int) - 1 - ((0 : Nat) : Int) = (items.size : Int) - 1 := by omega
  refine wpAny_pure ⟨plainId_quiet F.plain_extend_loop _, codeAny_extend_loopS W hn _ hSf _ items.size 0 _ _ _ rfl (Nat.zero_le _) ⟨Nat.zero_le _, by rw [e0]; exact hit, hl⟩ hS (ItemsOf.nil _) fun s' acc' c' hm hS' hacc => ?_⟩
  rw [Moved.eq_with hm]
  refine hR s'.heap s'.toks acc' c' (fun b o hb hb2 e => hm.heap b o (fun hmem => ?_) e) hS' hacc
  rcases List.mem_cons.mp hmem with e' | hmem
  · exact hb e'
  · exact hb2 (List.mem_singleton.mp hmem)
theorem init_rev {R : Result → Shared → Prop} (hh : A.handled = none) {it l S : Addr} {items : Array Value} (hit : s.heap.IsRevIter it l ((items.size : Int) - 1)) (hl : s.heap.IsList l items) (hne : l ≠ it) (hSi : S ≠ it) (hSl : S ≠ l) (hn : items.size ≤ sizeLine)
    (hS : s.heap.get? S = some { cls := .type "list", data := .seq #[] })
    (hR : ∀ h' tk acc c', (∀ b o, b ≠ S → b ≠ it → s.heap.get? b = some o → h'.get? b = some o) → h'.get? S = some { cls := .type "list", dict := none, data := .seq acc c', slots := #[] } →
      ItemsOf (fun i v => items[items.size - 1 - i]? = some v) acc items.size → R (.ok (.ret .none)) { s with heap := h', toks := tk }) :
    wpAny (model prog w) A.in1 (Builtin.«list.__init__» ⟨[.ref S, .ref it], []⟩)
      (fun fin s' => match fin with | .done f => R (.ok f) s' | .again c' => c'.quiet = true ∧ codeAny (model prog w) A c' R s') (fun e s' => R (.error e) s') s := by
  show wpAny _ _ (do let old ← Builtin.List.listItems (.ref S); Builtin.List.listUpdate (.ref S) (fun _ => #[]); letGo old.toList.reverse; Builtin.List.listExtendWith (.ref S) (.ref it) .none) _ _ s
  refine wpAny_bind ?_
  unfold Builtin.List.listItems
  refine wpAny_bind (wpAny_seqItems hS rfl (wpAny_pure ?_))
  show wpAny _ _ (updateSeq S (fun _ => #[]) >>= fun _ => letGo (#[] : Array Value).toList.reverse >>= fun _ => Builtin.List.listExtendWith (.ref S) (.ref it) .none) _ _ s
  refine wpAny_bind (wpAny_updateSeq hS rfl ?_)
  have hS₂ := Heap.get?_update_self (Obj.mapSeq (fun _ => (#[] : Array Value))) hS rfl
  have oth : ∀ b o, b ≠ S → s.heap.get? b = some o → (s.heap.update S (Obj.mapSeq (fun _ => (#[] : Array Value)))).get? b = some o :=
    fun b o hb e => (Heap.get?_update_other _ _ (Ne.symm hb)).trans e
  refine wpAny_bind (wpAny_letGo ?_)
  refine extend_rev (s := { s with heap := s.heap.update S (Obj.mapSeq (fun _ => (#[] : Array Value))) }) hh .none (hit.at fun o e => oth _ o (Ne.symm hSi) e) (hl.at fun o e => oth _ o (Ne.symm hSl) e) hne hSi hSl hn hS₂ fun h' tk acc' c' hk hS' hacc => ?_
  exact hR h' tk acc' c' (fun b o hb hb2 e => hk b o hb hb2 (oth b o hb e)) hS' hacc
theorem call_list_rev {Q : Value → Shared → Prop} (hh : A.handled = none) {it l : Addr} {items : Array Value} (hit : s.heap.IsRevIter it l ((items.size : Int) - 1)) (hl : s.heap.IsList l items) (hne : l ≠ it) (hn : items.size ≤ sizeLine)
    (hQ : ∀ h' tk acc c', (∀ b o, b ≠ it → s.heap.get? b = some o → h'.get? b = some o) → h'.get? s.heap.objs.size = some { cls := .type "list", dict := none, data := .seq acc c', slots := #[] } →
      ItemsOf (fun i v => items[items.size - 1 - i]? = some v) acc items.size → Q (.ref s.heap.objs.size) { s with heap := h', toks := tk }) :
    wpAny (model prog w) A (call (.type "list") [.ref it]) Q E s := by
  obtain ⟨oi, hoi, _⟩ := id hit
  obtain ⟨ol, hol, _⟩ := id hl
  refine callType_codes (Q₁ := fun obj s₁ => obj = .ref s.heap.objs.size ∧ s₁ = { s with heap := s.heap.push { cls := .type "list", data := .seq #[] } }) F.called_list (F.typeCall_list_1 _) F.entry_list_init
    (code_list_new _ ⟨rfl, rfl⟩) fun obj s₁ h₁ => ?_
  obtain ⟨rfl, rfl⟩ := h₁
  have hS : (s.heap.push { cls := .type "list", data := .seq #[] }).get? s.heap.objs.size = some { cls := .type "list", data := .seq #[] } := Heap.get?_push_size _ rfl
  refine ⟨⟨_, hS, rfl⟩, F.args_list_init_2 _ _, init_rev (A := A.in1) (s := { s with heap := s.heap.push { cls := .type "list", data := .seq #[] } }) hh (hit.at fun o e => Heap.get?_push_of_some _ e) (hl.push _) hne (Nat.ne_of_gt (Heap.lt_size hoi)) (Nat.ne_of_gt (Heap.lt_size hol)) hn hS fun h' tk acc' c' hk hS' hacc => ?_⟩
  exact ⟨rfl, hQ h' tk acc' c' (fun b o hb e => hk b o (Nat.ne_of_lt (Heap.lt_size e)) hb (Heap.get?_push_of_some _ e)) hS' hacc⟩
end
/-- list(reversed(x)), x a list: a new list -/
def tListRev (K : PySem.W.Frag) (te : TE) : TE := fun σ H Q => te σ H fun v H1 => ∃ (a : Addr) (xs : List V), v = .ref a ∧ SqL K H1 a xs ∧ ∀ q, H1 q = none → Q (.ref q) (upd H1 q (.lst xs.reverse))
theorem pe_listRev {X : Cx} {e : Expr} {te : TE} {p p2 pos pos2 : Pos} (hc : X.calm = true) (hg : Gl X "list") (hm : X.mg "list" = none) (hg2 : Gl X "reversed") (hm2 : X.mg "reversed" = none) (he : PE X e te)
    (hs : starEach [e] X.env = (false, eval e X.env) :: starEach [] X.env := by rfl)
    (hs2 : starEach [.Call (.Name "reversed" p2) [e] [] pos2] X.env = (false, eval (.Call (.Name "reversed" p2) [e] [] pos2) X.env) :: starEach [] X.env := by rfl) :
    PE X (.Call (.Name "list" p) [.Call (.Name "reversed" p2) [e] [] pos2] [] pos) (tListRev X.K te) := by
  refine ⟨fun pins s σ H Q I h => ?_⟩
  refine Call_ (ld_blt I hg hm boot_list (PyProof.Rows.callWith_type1 (args_cons (Call_ (ld_blt I hg2 hm2 PyProof.Rows.boot_reversed (PyProof.Rows.callWith_type1 (args_cons (thn (he.run pins s σ H _ I h) fun u s1 ⟨v, H1, I1, r1, q1⟩ => args_nil ?_) hs) hs rfl))) hs2) hs2 rfl))
  obtain ⟨a, xs, ev, hq, q⟩ := q1
  subst ev
  obtain rfl : u = Value.ref a := r1
  obtain ⟨its, rv, p', hz⟩ := I1.list hq
  refine call_reversed_list p'.isList (args_nil ?_)
  have k0 : ∀ b o, s1.heap.get? b = some o → (s1.heap.push (revObj a ((its.toArray.size : Int) - 1))).get? b = some o := fun b o e => Heap.get?_push_of_some _ e
  have I2 : Inv X pins σ H1 { s1 with heap := s1.heap.push (revObj a ((its.toArray.size : Int) - 1)) } := I1.kept (t' := s1.toks) k0
  have hl := p'.isList
  obtain ⟨ol, hol, _⟩ := id hl
  have hne : a ≠ s1.heap.objs.size := Nat.ne_of_lt (Heap.lt_size hol)
  have hn : its.toArray.size ≤ sizeLine := by rw [List.size_toArray, ← rv.length]; exact hz
  refine call_list_rev (s := { s1 with heap := s1.heap.push (revObj a ((its.toArray.size : Int) - 1)) }) (I1.ok.hd hc) ⟨_, Heap.get?_push_size _ rfl, rfl, rfl⟩ (hl.push _) hne hn fun h' tk acc c' hk hS hi => ?_
  have f := I1.fpOk (H' := H1) (b := s1.heap.objs.size) (Nat.le_refl _) (I1.hok.fresh (Nat.le_refl _))
  have I3 := I2.turnedNew (ch := [s1.heap.objs.size]) (h' := h') (t' := tk) (T := (s1.heap.push (revObj a ((its.toArray.size : Int) - 1))).objs.size) (ob := .lst xs.reverse) (fun b ob hb q => hk b ob (fun z => hb (by simp [z])) q) (fun b hb => by rw [List.mem_singleton.mp hb]; exact f) (Nat.le_refl _)
    (show ObjOk X.prog X.w _ h' _ (.lst xs.reverse) from ⟨by rw [List.length_reverse]; exact hz, acc.toList, c', vals_rev rv hi, by rw [hS, Array.toArray_toList]⟩)
  exact ⟨.ref _, _, I3, rfl, q _ (I2.hok.fresh (Nat.le_refl _))⟩
end LR

namespace MW
open PySem
/-! words of digits, and the law's own walk over them -/
def dg (c : Nat) : Bool := decide (48 ≤ c) && decide (c ≤ 57)
def d1 (c : Nat) : Bool := decide (49 ≤ c) && decide (c ≤ 57)
def posW : List Nat → Bool
  | [] => false
  | c :: r => d1 c && r.all dg
def strip : List Nat → List Nat
  | [] => []
  | c :: r => if c = 45 then r else c :: r
def wholeW (l : List Nat) : Bool := decide (l = [48]) || posW (strip l)
def dv (l : List Nat) : Nat := NumText.digitsVal l
def vz (l : List Nat) : Int := if l.head? = some 45 then -(dv (strip l) : Int) else (dv (strip l) : Int)
def stp (s c : Nat) : Nat :=
  if s = 0 ∧ c = 45 then 1 else if s = 0 ∧ c = 48 then 2 else if (s = 0 ∨ s = 1) ∧ d1 c = true then 3 else if s = 3 ∧ dg c = true then 3
  else if (s = 2 ∨ s = 3) ∧ c = 47 then 4 else if s = 4 ∧ d1 c = true then 5 else if s = 5 ∧ dg c = true then 5 else 6
/-- '0123456789'.find(c) -/
def fnd (c : Nat) : Int := if dg c = true then (c : Int) - 48 else -1
def rd (s : Nat × Int × Int) (c : Nat) : Nat × Int × Int := (stp s.1 c, (if stp s.1 c = 3 then 10 * s.2.1 + fnd c else s.2.1), (if stp s.1 c = 5 then 10 * s.2.2 + fnd c else s.2.2))
theorem d1_dg {c : Nat} (h : d1 c = true) : dg c = true := by
  simp only [d1, dg, Bool.and_eq_true, decide_eq_true_eq] at *
  omega
theorem stp6 (c : Nat) : stp 6 c = 6 := by simp [stp]
theorem dead (r : List Nat) (t b : Int) : r.foldl rd (6, t, b) = (6, t, b) := by
  induction r with
  | nil => rfl
  | cons c r ih =>
    rw [List.foldl_cons]
    have e : rd (6, t, b) c = (6, t, b) := by simp [rd, stp6]
    rw [e, ih]
theorem stp3 {c : Nat} (h : dg c = true) : stp 3 c = 3 := by simp [stp, h]
theorem stp3n {c : Nat} (h : dg c = false) (h2 : c ≠ 47) : stp 3 c = 6 := by simp [stp, h, h2]
theorem stp5 {c : Nat} (h : dg c = true) : stp 5 c = 5 := by simp [stp, h]
theorem stp5n {c : Nat} (h : dg c = false) : stp 5 c = 6 := by simp [stp, h]
def fz (r : List Nat) (t : Int) : Int := r.foldl (fun a c => 10 * a + fnd c) t
theorem run3 (r : List Nat) (h47 : 47 ∉ r) : ∀ t b : Int, (r.all dg = true → r.foldl rd (3, t, b) = (3, fz r t, b)) ∧ (r.all dg = false → (r.foldl rd (3, t, b)).1 = 6) := by
  induction r with
  | nil => exact fun t b => ⟨fun _ => rfl, fun h => by simp at h⟩
  | cons c r ih =>
    intro t b
    have h2 : c ≠ 47 := fun e => h47 (by simp [e])
    have ih' := ih (fun z => h47 (List.mem_cons_of_mem _ z))
    rw [List.foldl_cons]
    cases hc : dg c with
    | true =>
      have e : rd (3, t, b) c = (3, 10 * t + fnd c, b) := by simp [rd, stp3 hc]
      rw [e]
      refine ⟨fun h => ?_, fun h => ?_⟩
      · rw [List.all_cons, hc, Bool.true_and] at h
        exact (ih' _ _).1 h
      · rw [List.all_cons, hc, Bool.true_and] at h
        exact (ih' _ _).2 h
    | false =>
      have e : rd (3, t, b) c = (6, t, b) := by simp [rd, stp3n hc h2]
      rw [e, dead]
      exact ⟨fun h => by simp [hc] at h, fun _ => rfl⟩
theorem run5 (r : List Nat) : ∀ t b : Int, (r.all dg = true → r.foldl rd (5, t, b) = (5, t, fz r b)) ∧ (r.all dg = false → (r.foldl rd (5, t, b)).1 = 6) := by
  induction r with
  | nil => exact fun t b => ⟨fun _ => rfl, fun h => by simp at h⟩
  | cons c r ih =>
    intro t b
    rw [List.foldl_cons]
    cases hc : dg c with
    | true =>
      have e : rd (5, t, b) c = (5, t, 10 * b + fnd c) := by simp [rd, stp5 hc]
      rw [e]
      refine ⟨fun h => ?_, fun h => ?_⟩
      · rw [List.all_cons, hc, Bool.true_and] at h
        exact (ih _ _).1 h
      · rw [List.all_cons, hc, Bool.true_and] at h
        exact (ih _ _).2 h
    | false =>
      have e : rd (5, t, b) c = (6, t, b) := by simp [rd, stp5n hc]
      rw [e, dead]
      exact ⟨fun h => by simp [hc] at h, fun _ => rfl⟩
theorem all_digits {r : List Nat} (h : r.all dg = true) : NumText.AllDigits r := fun c hc => by
  have := List.all_eq_true.mp h c hc
  simp only [dg, Bool.and_eq_true, decide_eq_true_eq] at this
  exact this
theorem fz_dv : ∀ (r : List Nat) (n : Nat), r.all dg = true → fz r (n : Int) = ((r.foldl (fun acc c => acc * 10 + (c - 48)) n : Nat) : Int)
  | [], _, _ => rfl
  | c :: r, n, h => by
    rw [List.all_cons, Bool.and_eq_true] at h
    have hc : 48 ≤ c ∧ c ≤ 57 := by
      have := h.1
      simp only [dg, Bool.and_eq_true, decide_eq_true_eq] at this
      exact this
    unfold fz
    rw [List.foldl_cons, List.foldl_cons, ← fz_dv r _ h.2]
    have e : 10 * (n : Int) + fnd c = ((n * 10 + (c - 48) : Nat) : Int) := by
      unfold fnd
      rw [if_pos h.1]
      omega
    rw [e]
    rfl
theorem fz_cons {c : Nat} {r : List Nat} (h : (c :: r).all dg = true) : fz r (10 * 0 + fnd c) = (dv (c :: r) : Int) := by
  have e := fz_dv (c :: r) 0 h
  unfold fz at e
  rw [List.foldl_cons] at e
  exact e
theorem pos_all {l : List Nat} (h : posW l = true) : l.all dg = true ∧ l ≠ [] := by
  cases l with
  | nil => simp [posW] at h
  | cons c r =>
    simp only [posW, Bool.and_eq_true] at h
    exact ⟨by simp only [List.all_cons, d1_dg h.1, h.2, Bool.and_self], by simp⟩
/-- what the walk says of a list without a slash -/
def Ra (a : List Nat) (s : Nat × Int × Int) : Prop := s.2.2 = 0 ∧ (s.1 = 0 ∨ s.1 = 1 ∨ s.1 = 2 ∨ s.1 = 3 ∨ s.1 = 6) ∧ ((s.1 = 2 ∨ s.1 = 3) ↔ wholeW a = true) ∧ (wholeW a = true → s.2.1 = (dv (strip a) : Int))
theorem rd0 {c : Nat} {s : Nat} (h : stp s c ≠ 3) (h5 : stp s c ≠ 5) (t b : Int) : rd (s, t, b) c = (stp s c, t, b) := by simp [rd, h, h5]
theorem posW_45 (r : List Nat) : posW (45 :: r) = false := by simp [posW, d1]
theorem posW_48 (r : List Nat) : posW (48 :: r) = false := by simp [posW, d1]
theorem strip_45 (r : List Nat) : strip (45 :: r) = r := rfl
theorem strip_ot {c : Nat} (r : List Nat) (h : c ≠ 45) : strip (c :: r) = c :: r := by
  show (if c = 45 then r else c :: r) = _
  rw [if_neg h]
theorem whole_48 (r : List Nat) : wholeW (48 :: r) = decide (r = []) := by
  unfold wholeW
  rw [strip_ot r (by decide), posW_48, Bool.or_false]
  simp
theorem whole_45 (r : List Nat) : wholeW (45 :: r) = posW r := by
  unfold wholeW
  rw [strip_45]
  simp
theorem whole_ot {c : Nat} (r : List Nat) (h : c ≠ 45) (h2 : c ≠ 48) : wholeW (c :: r) = posW (c :: r) := by
  unfold wholeW
  rw [strip_ot r h]
  simp [h2]
theorem run2 (r : List Nat) (h47 : 47 ∉ r) (t b : Int) : r.foldl rd (2, t, b) = if r = [] then (2, t, b) else (6, t, b) := by
  cases r with
  | nil => rfl
  | cons c r =>
    have h2 : c ≠ 47 := fun e => h47 (by simp [e])
    have e : stp 2 c = 6 := by simp [stp, h2]
    rw [List.foldl_cons, rd0 (by rw [e]; decide) (by rw [e]; decide), e, dead, if_neg (by simp)]
theorem run_pos {c s : Nat} {r : List Nat} (hs : s = 0 ∨ s = 1) (h45 : s = 0 → c ≠ 45 ∧ c ≠ 48) (h47 : 47 ∉ c :: r) :
    (posW (c :: r) = true → (c :: r).foldl rd (s, 0, 0) = (3, (dv (c :: r) : Int), 0)) ∧ (posW (c :: r) = false → ((c :: r).foldl rd (s, 0, 0)).1 = 6 ∧ ((c :: r).foldl rd (s, 0, 0)).2.2 = 0) := by
  have h2 : c ≠ 47 := fun e => h47 (by simp [e])
  have hr : 47 ∉ r := fun z => h47 (List.mem_cons_of_mem _ z)
  cases hc : d1 c with
  | true =>
    have e : stp s c = 3 := by
      rcases hs with rfl | rfl
      · simp [stp, hc, (h45 rfl).1, (h45 rfl).2]
      · simp [stp, hc]
    have e2 : rd (s, 0, 0) c = (3, 10 * 0 + fnd c, 0) := by simp [rd, e]
    rw [List.foldl_cons, e2]
    cases ha : r.all dg with
    | true =>
      rw [(run3 r hr _ _).1 ha, fz_cons (by rw [List.all_cons, d1_dg hc, ha] <;> rfl)]
      exact ⟨fun _ => rfl, fun h => by simp [posW, hc, ha] at h⟩
    | false =>
      refine ⟨fun h => by simp [posW, hc, ha] at h, fun _ => ⟨(run3 r hr _ _).2 ha, ?_⟩⟩
      have key : ∀ (r : List Nat), 47 ∉ r → ∀ t : Int, (r.foldl rd (3, t, 0)).2.2 = 0 := by
        intro r
        induction r with
        | nil => exact fun _ t => rfl
        | cons c r ih =>
          intro h t
          have h2 : c ≠ 47 := fun e => h (by simp [e])
          rw [List.foldl_cons]
          cases hc : dg c with
          | true =>
            have e : rd (3, t, 0) c = (3, 10 * t + fnd c, 0) := by simp [rd, stp3 hc]
            rw [e]
            exact ih (fun z => h (List.mem_cons_of_mem _ z)) _
          | false =>
            have e : rd (3, t, 0) c = (6, t, 0) := by simp [rd, stp3n hc h2]
            rw [e, dead]
      exact key r hr _
  | false =>
    have e : stp s c = 6 := by
      rcases hs with rfl | rfl
      · simp [stp, hc, (h45 rfl).1, (h45 rfl).2]
      · simp [stp, hc]
    rw [List.foldl_cons, rd0 (by rw [e]; decide) (by rw [e]; decide), e, dead]
    exact ⟨fun h => by simp [posW, hc] at h, fun _ => ⟨rfl, rfl⟩⟩
theorem runA (a : List Nat) (h47 : 47 ∉ a) : Ra a (a.foldl rd (0, 0, 0)) := by
  cases a with
  | nil => exact ⟨rfl, .inl rfl, by simp [wholeW, strip, posW], by simp [wholeW, strip, posW]⟩
  | cons c r =>
    have hr : 47 ∉ r := fun z => h47 (List.mem_cons_of_mem _ z)
    by_cases h45 : c = 45
    · subst h45
      have e : stp 0 45 = 1 := by decide
      rw [List.foldl_cons, rd0 (by rw [e]; decide) (by rw [e]; decide), e]
      unfold Ra
      rw [whole_45]
      have es : strip (45 :: r) = r := strip_45 r
      rw [es]
      cases r with
      | nil => exact ⟨rfl, .inr (.inl rfl), by simp [posW], by simp [posW]⟩
      | cons d r =>
        have k := run_pos (c := d) (s := 1) (r := r) (.inr rfl) (fun z => by cases z) hr
        cases hp : posW (d :: r) with
        | true =>
          rw [k.1 hp]
          exact ⟨rfl, .inr (.inr (.inr (.inl rfl))), by simp, fun _ => rfl⟩
        | false =>
          obtain ⟨k1, k2⟩ := k.2 hp
          exact ⟨k2, .inr (.inr (.inr (.inr k1))), by rw [k1]; simp, by simp⟩
    · by_cases h48 : c = 48
      · subst h48
        have e : stp 0 48 = 2 := by decide
        rw [List.foldl_cons, rd0 (by rw [e]; decide) (by rw [e]; decide), e, run2 r hr]
        unfold Ra
        rw [whole_48]
        by_cases hn : r = []
        · subst hn
          exact ⟨rfl, .inr (.inr (.inl rfl)), by simp, fun _ => by decide⟩
        · rw [if_neg hn]
          exact ⟨rfl, .inr (.inr (.inr (.inr rfl))), by simp [hn], by simp [hn]⟩
      · have k := run_pos (c := c) (s := 0) (r := r) (.inl rfl) (fun _ => ⟨h45, h48⟩) h47
        unfold Ra
        rw [whole_ot r h45 h48]
        have es : strip (c :: r) = c :: r := strip_ot r h45
        rw [es]
        cases hp : posW (c :: r) with
        | true =>
          rw [k.1 hp]
          exact ⟨rfl, .inr (.inr (.inr (.inl rfl))), by simp, fun _ => rfl⟩
        | false =>
          obtain ⟨k1, k2⟩ := k.2 hp
          exact ⟨k2, .inr (.inr (.inr (.inr k1))), by rw [k1]; simp, by simp⟩
/-- behind a slash -/
theorem runB (b : List Nat) (t : Int) : (posW b = true → b.foldl rd (4, t, 0) = (5, t, (dv b : Int))) ∧ (posW b = false → (b.foldl rd (4, t, 0)).1 = 4 ∨ (b.foldl rd (4, t, 0)).1 = 6) := by
  cases b with
  | nil => exact ⟨fun h => by simp [posW] at h, fun _ => .inl rfl⟩
  | cons c r =>
    cases hc : d1 c with
    | true =>
      have e : stp 4 c = 5 := by simp [stp, hc]
      have e2 : rd (4, t, 0) c = (5, t, 10 * 0 + fnd c) := by simp [rd, e]
      rw [List.foldl_cons, e2]
      cases ha : r.all dg with
      | true =>
        rw [(run5 r _ _).1 ha, fz_cons (by rw [List.all_cons, d1_dg hc, ha] <;> rfl)]
        exact ⟨fun _ => rfl, fun h => by simp [posW, hc, ha] at h⟩
      | false => exact ⟨fun h => by simp [posW, hc, ha] at h, fun _ => .inr ((run5 r _ _).2 ha)⟩
    | false =>
      have e : stp 4 c = 6 := by simp [stp, hc]
      rw [List.foldl_cons, rd0 (by rw [e]; decide) (by rw [e]; decide), e, dead]
      exact ⟨fun h => by simp [posW, hc] at h, fun _ => .inr rfl⟩
theorem split47 : ∀ l : List Nat, 47 ∉ l ∨ ∃ a b, l = a ++ 47 :: b ∧ 47 ∉ a
  | [] => .inl (by simp)
  | c :: r => by
    by_cases h : c = 47
    · exact .inr ⟨[], r, by simp [h], by simp⟩
    · rcases split47 r with k | ⟨a, b, rfl, k⟩
      · exact .inl (by simp; exact ⟨fun e => h e.symm, k⟩)
      · exact .inr ⟨c :: a, b, rfl, by simp; exact ⟨fun e => h e.symm, k⟩⟩
theorem whole_free {l : List Nat} (h : wholeW l = true) : 47 ∉ l := by
  intro hm
  cases l with
  | nil => simp at hm
  | cons c r =>
    have key : ∀ m : List Nat, posW m = true → 47 ∉ m := fun m hp z => by
      have := all_digits (pos_all hp).1 47 z
      omega
    by_cases h45 : c = 45
    · subst h45
      rw [whole_45] at h
      rcases List.mem_cons.mp hm with e | z
      · omega
      · exact key r h z
    · by_cases h48 : c = 48
      · subst h48
        rw [whole_48] at h
        simp at h
        subst h
        simp at hm
      · rw [whole_ot r h45 h48] at h
        exact key _ h hm
/-- the walk's end -/
inductive End (l : List Nat) : Nat × Int × Int → Prop where
  | flat (s : Nat × Int × Int) (h : 47 ∉ l) (h5 : s.1 ≠ 5) (hw : (s.1 = 2 ∨ s.1 = 3) ↔ wholeW l = true) : End l s
  | good (a b : List Nat) (e : l = a ++ 47 :: b) (h : 47 ∉ a) (ha : wholeW a = true) (hb : posW b = true) : End l (5, (dv (strip a) : Int), (dv b : Int))
  | bad (s : Nat × Int × Int) (a b : List Nat) (e : l = a ++ 47 :: b) (h : 47 ∉ a) (hn : (wholeW a && posW b) = false) (h5 : s.1 ≠ 5 ∧ s.1 ≠ 2 ∧ s.1 ≠ 3) : End l s
theorem run_end (l : List Nat) : End l (l.foldl rd (0, 0, 0)) := by
  rcases split47 l with h | ⟨a, b, rfl, h⟩
  · obtain ⟨h1, h2, h3, h4⟩ := runA l h
    exact .flat _ h (by omega) h3
  · have ka := runA a h
    have hs : ∃ s t z, a.foldl rd (0, 0, 0) = (s, t, z) := ⟨_, _, _, rfl⟩
    obtain ⟨s, t, z, es⟩ := hs
    have kb : (a ++ 47 :: b).foldl rd (0, 0, 0) = b.foldl rd (rd (s, t, z) 47) := by rw [List.foldl_append, List.foldl_cons, es]
    rw [es] at ka
    obtain ⟨h1, h2, h3, h4⟩ := ka
    dsimp only at h1 h2 h3 h4
    subst h1
    by_cases hw : s = 2 ∨ s = 3
    · have e4 : stp s 47 = 4 := by rcases hw with rfl | rfl <;> decide
      have e5 : rd (s, t, 0) 47 = (4, t, 0) := by rw [rd0 (by rw [e4]; decide) (by rw [e4]; decide), e4]
      have ha := h3.mp hw
      rw [kb, e5]
      cases hp : posW b with
      | true =>
        rw [(runB b t).1 hp, h4 ha]
        exact .good a b rfl h ha hp
      | false => exact .bad _ a b rfl h (by rw [hp, Bool.and_false]) (by rcases (runB b t).2 hp with e | e <;> rw [e] <;> decide)
    · have e4 : stp s 47 = 6 := by rcases h2 with rfl | rfl | rfl | rfl | rfl <;> first | decide | exact absurd (by simp) hw
      have e5 : rd (s, t, 0) 47 = (6, t, 0) := by rw [rd0 (by rw [e4]; decide) (by rw [e4]; decide), e4]
      rw [kb, e5, dead]
      exact .bad _ a b rfl h (by rw [Bool.and_eq_false_iff]; exact .inl (Bool.eq_false_iff.mpr fun z => hw (h3.mpr z))) ⟨by simp, by simp, by simp⟩
theorem dv_zero (l : List Nat) : dv (48 :: l) = dv l := rfl
theorem dv_pos {l : List Nat} (h : posW l = true) : 0 < dv l := by
  cases l with
  | nil => simp [posW] at h
  | cons c r =>
    simp only [posW, Bool.and_eq_true, d1, decide_eq_true_eq] at h
    have key : ∀ (r : List Nat) (n : Nat), 0 < n → 0 < r.foldl (fun acc c => acc * 10 + (c - 48)) n := by
      intro r
      induction r with
      | nil => exact fun n h => h
      | cons d r ih => exact fun n h => ih (n * 10 + (d - 48)) (by omega)
    show 0 < r.foldl (fun acc c => acc * 10 + (c - 48)) (0 * 10 + (c - 48))
    exact key r _ (by omega)
theorem dv_lt : ∀ (l : List Nat), l.all dg = true → dv l < 10 ^ l.length := by
  have key : ∀ (r : List Nat) (n k : Nat), r.all dg = true → n < 10 ^ k → r.foldl (fun acc c => acc * 10 + (c - 48)) n < 10 ^ (k + r.length) := by
    intro r
    induction r with
    | nil => exact fun n k _ h => h
    | cons c r ih =>
      intro n k h hn
      rw [List.all_cons, Bool.and_eq_true] at h
      have hc : c ≤ 57 := by
        have := h.1
        simp only [dg, Bool.and_eq_true, decide_eq_true_eq] at this
        omega
      have := ih (n * 10 + (c - 48)) (k + 1) h.2 (by rw [Nat.pow_succ]; omega)
      rw [List.foldl_cons, List.length_cons, show k + (r.length + 1) = k + 1 + r.length by omega]
      exact this
  intro l h
  have := key l 0 0 h (by decide)
  rw [Nat.zero_add] at this
  exact this
end MW

namespace MT
open PySem PySem.Spec PyProof.Rows L2 MW
open SX (S S_len S_cat S_inj slice_to slice_from num_S)
/-! texts as lists of codes -/
theorem vS_eq {l m : List Nat} : (V.str (S l) = V.str (S m)) ↔ l = m := ⟨fun h => S_inj (V.str.inj h), fun h => by rw [h]⟩
section
variable {A B : Prop} {l m : List Nat} {z : Str}
theorem w_iteS (m : List Nat) (e : z = S m) (h1 : l = m → A) (h2 : l ≠ m → B) : if decide (V.str (S l) = V.str z) = true then A else B := by
  subst e
  by_cases h : l = m
  · rw [if_pos (decide_eq_true (vS_eq.mpr h))]; exact h1 h
  · rw [if_neg (fun k => h (vS_eq.mp (of_decide_eq_true k)))]; exact h2 h
theorem w_iteSN (m : List Nat) (e : z = S m) (h1 : l ≠ m → A) (h2 : l = m → B) : if (!decide (V.str (S l) = V.str z)) = true then A else B := by
  subst e
  by_cases h : l = m
  · rw [decide_eq_true (vS_eq.mpr h)]; exact h2 h
  · rw [decide_eq_false (fun k => h (vS_eq.mp k))]; exact h1 h
end
theorem ascii_S (l : List Nat) : Txt.isascii (S l) = l.all (· < 128) := by
  unfold Txt.isascii S
  simp
theorem starts1 (l : List Nat) (c : Nat) : Txt.startswith (S l) (S [c]) = decide (l.head? = some c) := by
  cases l with
  | nil => simp [Txt.startswith, S, Str.length]
  | cons d r =>
    simp only [Txt.startswith, S_len, List.length_cons, List.length_nil]
    have e : ∀ z : Nat, (⟨#[z]⟩ : Str).length = 1 := fun _ => rfl
    by_cases h : d = c
    · subst h
      simp [Builtin.Str.subAt, S, e]
    · simp [Builtin.Str.subAt, S, h, e]
theorem digit_S (l : List Nat) (h : l.all (· < 128) = true) : Txt.isdigit (S l) = (!l.isEmpty && l.all dg) := by
  have e : ∀ l : List Nat, l.all (· < 128) = true → l.all Unicode.isDigit = l.all dg := by
    intro l
    induction l with
    | nil => exact fun _ => rfl
    | cons c r ih =>
      intro h
      rw [List.all_cons, Bool.and_eq_true] at h
      have k := cls_isdigit c (of_decide_eq_true h.1)
      rw [List.all_cons, List.all_cons, ih h.2, k]
      congr 1
      have k3 : ∀ c, c < 128 → inR 48 57 ⟨#[c]⟩ = dg c := by decide +kernel
      exact k3 c (of_decide_eq_true h.1)
  unfold Txt.isdigit
  rw [S_len]
  have e2 : (S l).cps.all Unicode.isDigit = l.all Unicode.isDigit := by simp [S]
  rw [e2, e l h]
  cases l <;> simp
theorem pos_txt (l : List Nat) : posW l = (Txt.isascii (S l) && (Txt.isdigit (S l) && !Txt.startswith (S l) (S [48]))) := by
  rw [ascii_S]
  cases h : l.all (· < 128) with
  | true =>
    rw [digit_S l h, starts1, Bool.true_and]
    cases l with
    | nil => rfl
    | cons c r =>
      simp only [posW, List.isEmpty_cons, Bool.not_false, Bool.true_and, List.all_cons, List.head?_cons, Option.some.injEq, d1, dg]
      cases r.all dg with
      | false => simp
      | true =>
        simp only [Bool.and_true]
        by_cases h1 : 49 ≤ c
        · by_cases h2 : c ≤ 57
          · simp [h1, h2, show 48 ≤ c by omega, show c ≠ 48 by omega]
          · simp [h1, h2]
        · by_cases h2 : c = 48
          · simp [h2]
          · simp [h1, show ¬ 48 ≤ c by omega]
  | false =>
    rw [Bool.false_and]
    cases l with
    | nil => simp at h
    | cons c r =>
      refine Bool.eq_false_iff.mpr fun k => ?_
      have := (pos_all k).1
      have k2 : (c :: r).all (· < 128) = true := List.all_eq_true.mpr fun d hd => by
        have := all_digits this d hd
        exact decide_eq_true (by omega)
      rw [k2] at h
      cases h
theorem cut_to {l : List Nat} {i : Int} (h : 0 ≤ i) : cutS (S l) none (some i) = S (l.take i.toNat) := by rw [C8.cutS_slice, slice_to h]
theorem cut_from {l : List Nat} {i : Int} (h : 0 ≤ i) : cutS (S l) (some i) none = S (l.drop i.toNat) := by rw [C8.cutS_slice, slice_from h]
theorem rp_S (l : List Nat) : Txt.removeprefix (S l) (S [45]) = S (strip l) := by
  rw [StrLaws.removeprefix_eq]
  have e := starts1 l 45
  unfold Txt.startswith at e
  cases l with
  | nil => rfl
  | cons c r =>
    by_cases h : c = 45
    · subst h
      rw [if_pos (by rw [e]; simp), strip_45]
      simp [S, Str.length]
    · rw [if_neg (by rw [e]; simp [h]), strip_ot r h]
theorem find_dg {c : Nat} (h : dg c = true) : Txt.find (S [48, 49, 50, 51, 52, 53, 54, 55, 56, 57]) (S [c]) = fnd c := by
  have hc : 48 ≤ c ∧ c ≤ 57 := by simpa [dg] using h
  have : c = 48 ∨ c = 49 ∨ c = 50 ∨ c = 51 ∨ c = 52 ∨ c = 53 ∨ c = 54 ∨ c = 55 ∨ c = 56 ∨ c = 57 := by omega
  rcases this with e | e | e | e | e | e | e | e | e | e <;> subst e <;> decide +kernel
/-- the text of a whole number -/
def nz (i : Int) : List Nat := if i < 0 then 45 :: TL.numL i.natAbs else TL.numL i.natAbs
theorem S_nz (i : Int) : Str.ofString (toString i) = S (nz i) := by
  unfold nz
  by_cases h : i < 0
  · rw [if_pos h]
    refine TL.ext_tl ?_
    have e : toString i = "-" ++ toString ((i.natAbs : Nat) : Int) := by
      rw [PyProof.Rows.toString_neg h]
      congr 2
      omega
    rw [e, TL.tl_ofString, String.toList_append, List.map_append]
    have e2 := TL.tl_num i.natAbs
    rw [TL.tl_ofString] at e2
    rw [e2]
    rfl
  · rw [if_neg h]
    have e : i = ((i.natAbs : Nat) : Int) := by omega
    exact (congrArg (fun x : Int => Str.ofString (toString x)) e).trans (num_S i.natAbs)
theorem posW_snoc {l : List Nat} {c : Nat} (h : posW l = true) (hc : dg c = true) : posW (l ++ [c]) = true := by
  cases l with
  | nil => simp [posW] at h
  | cons d r =>
    simp only [posW, Bool.and_eq_true, List.cons_append, List.all_append, List.all_cons, List.all_nil] at *
    exact ⟨h.1, h.2, hc, trivial⟩
theorem numL_posW : ∀ n : Nat, 0 < n → posW (TL.numL n) = true := by
  intro n
  induction n using Nat.strongRecOn with
  | _ n ih =>
    intro h
    by_cases h10 : n < 10
    · rw [TL.numL_lt h10]
      simp [posW, d1]
      omega
    · rw [TL.numL_step (by omega)]
      exact posW_snoc (ih (n / 10) (by omega) (by omega)) (by simp [dg]; omega)
theorem dv_num (n : Nat) : dv (TL.numL n) = n := TL.numL_val n
theorem head_num (n : Nat) : (TL.numL n).head? ≠ some 45 := by
  intro h
  have hm : 45 ∈ TL.numL n := List.mem_of_mem_head? h
  have := TL.numL_digits n 45 hm
  omega
theorem strip_num (n : Nat) : strip (TL.numL n) = TL.numL n := by
  have k := head_num n
  cases h : TL.numL n with
  | nil => rfl
  | cons c r =>
    rw [h] at k
    exact strip_ot r (by simpa using k)
theorem nz_whole (i : Int) : wholeW (nz i) = true := by
  unfold nz
  by_cases h : i < 0
  · rw [if_pos h, whole_45]
    exact numL_posW _ (by omega)
  · rw [if_neg h]
    by_cases h0 : i.natAbs = 0
    · rw [h0]
      decide
    · unfold wholeW
      rw [strip_num, numL_posW _ (by omega), Bool.or_true]
theorem nz_val (i : Int) : vz (nz i) = i := by
  unfold vz nz
  by_cases h : i < 0
  · rw [if_pos h, if_pos (by simp), strip_45, dv_num]
    omega
  · rw [if_neg h, if_neg (head_num _), strip_num, dv_num]
    omega
theorem numL_nz {n : Nat} : nz (n : Int) = TL.numL n := by
  unfold nz
  rw [if_neg (by omega)]
  simp
section
variable {σ : L2.St} {H : Hp} {Q : VK} {to te : TE} {r : V → List V → Hp → VK → Prop}
theorem w_m0 (h : to σ H fun x H1 => (∃ a, x = .str a) ∧ r x [] H1 Q) : tM0 r to σ H Q := h
theorem w_m1 (h : to σ H fun x H1 => (∃ a, x = .str a) ∧ te σ H1 fun y H2 => r x [y] H2 Q) : tM1 r to te σ H Q := h
theorem w_slice {r : V → Option Int → Option Int → Hp → VK → Prop} {te : TE} {tl th : TO} (h : te σ H fun x H1 => tl σ H1 fun l H2 => th σ H2 fun u H3 => r x l u H3 Q) : L2.tSl r te tl th σ H Q := h
theorem w_nopart {R : Option Int → Hp → Prop} (h : R none H) : tNoPart σ H R := h
theorem w_part {t : TE} {R : Option Int → Hp → Prop} (h : t σ H fun x H1 => ∃ i, x = .int i ∧ R (some i) H1) : tPart t σ H R := h
theorem w_cut {l : List Nat} {lo hi : Option Int} (hl : l.length ≤ 100000) (q : Q (.str (cutS (S l) lo hi)) H) : rSlS (.str (S l)) lo hi H Q := ⟨_, rfl, by rw [S_len]; exact Nat.le_trans hl (by decide), q⟩
theorem w_cutTo {l : List Nat} {i : Int} (hl : l.length ≤ 100000) (hi : 0 ≤ i) (q : Q (.str (S (l.take i.toNat))) H) : rSlS (.str (S l)) none (some i) H Q := w_cut hl (by rw [cut_to hi]; exact q)
theorem w_cutFrom {l : List Nat} {i : Int} (hl : l.length ≤ 100000) (hi : 0 ≤ i) (q : Q (.str (S (l.drop i.toNat))) H) : rSlS (.str (S l)) (some i) none H Q := w_cut hl (by rw [cut_from hi]; exact q)
def rAddS : R2 := fun x y H Q => ∃ i j, x = .str i ∧ y = .str j ∧ i.length + j.length ≤ sizeLine ∧ Q (.str (i ++ j)) H
theorem op_addS {X : Cx} : OpR X (binaryOp .Add) rAddS := op_add_str
theorem w_addS {l m : List Nat} (hl : l.length + m.length ≤ 100000) (q : Q (.str (S (l ++ m))) H) : rAddS (.str (S l)) (.str (S m)) H Q := ⟨_, _, rfl, rfl, by rw [S_len, S_len]; exact Nat.le_trans hl (by decide), by rw [S_cat]; exact q⟩
theorem w_ixS {l : List Nat} {k : Int} {c : Nat} (hl : l.length ≤ 100000) (a : atI l k = some c) (q : Q (.str (S [c])) H) : rIxS (.str (S l)) (.int k) H Q := ⟨_, _, c, rfl, rfl, by rw [S_len]; exact Nat.le_trans hl (by decide), a, q⟩
theorem pickN {l : List Nat} {k : Int} (h0 : 0 ≤ k) (h : k < l.length) : ∃ c, atI l k = some c ∧ c ∈ l := by
  obtain ⟨j, rfl⟩ := Int.eq_ofNat_of_zero_le h0
  have hj : j < l.length := by omega
  exact ⟨l[j], atI_nat (j := j) (List.getElem?_eq_getElem hj), List.getElem_mem hj⟩
def rInS : R2 := fun x y H Q => ∃ (c : Nat) (z : Str), x = .str ⟨#[c]⟩ ∧ y = .str z ∧ Q (.bl (decide (c ∈ z.cps.toList))) H
def rNotInS : R2 := fun x y H Q => ∃ (c : Nat) (z : Str), x = .str ⟨#[c]⟩ ∧ y = .str z ∧ Q (.bl (!decide (c ∈ z.cps.toList))) H
theorem op_inS {X : Cx} : OpR X (compareOp .In) rInS := op_in_sign
theorem op_notInS {X : Cx} : OpR X (compareOp .NotIn) rNotInS := op_notIn_sign
theorem w_in1 {c : Nat} {m : List Nat} (q : Q (.bl (decide (c ∈ m))) H) : rInS (.str (S [c])) (.str (S m)) H Q := ⟨c, _, rfl, rfl, q⟩
theorem w_notin1 {c : Nat} {m : List Nat} (q : Q (.bl (!decide (c ∈ m))) H) : rNotInS (.str (S [c])) (.str (S m)) H Q := ⟨c, _, rfl, rfl, q⟩
theorem w_chain {r r' : R2} {ta tb tc : TE} (h : ta σ H fun x H1 => tb σ H1 fun y H2 => r x y H2 fun z H3 => ∃ k, z = .bl k ∧ (if k = true then tc σ H3 fun w' H4 => r' y w' H4 Q else Q (.bl false) H3)) : tChain r r' ta tb tc σ H Q := h
theorem w_rng3 {tl : TA} {R : It → Hp → Prop} (h : tl σ H fun vs H1 => ∃ (i j c : Int) (n : Nat), vs = [.int i, .int j, .int c] ∧ RgC i j c n ∧ R (Itc i c n) H1) : iRng3 tl σ H R := h
def rLenS : List V → Hp → VK → Prop := fun xs H Q => ∃ z : Str, xs = [.str z] ∧ z.length ≤ sizeLine ∧ Q (.int z.length) H
theorem call_lenS {X : Cx} : CallR X (.builtin "len") rLenS := call_len_str
theorem w_lenS {l : List Nat} (hl : l.length ≤ 100000) (q : Q (.int l.length) H) : rLenS [.str (S l)] H Q := ⟨_, rfl, by rw [S_len]; exact Nat.le_trans hl (by decide), by rw [S_len]; exact q⟩
theorem rg0 {n : Nat} (h : n < 64) : RgC (n : Int) (n : Int) 64 0 := by
  have k : ∀ n : Nat, n < 64 → Builtin.Range.small (n : Int) (n : Int) 64 = true := by decide +kernel
  exact ⟨by decide, by decide, k n h, by simp [Builtin.Range.rangeSize]⟩
theorem pe_strS {X : Cx} {z : Str} {l : List Nat} {j : Nat} {pos : Pos} (e : z = S l) : PE X (.Constant (.str z) j pos) (tC (.str (S l))) := by
  subst e
  exact pe_str
end
end MT

namespace MS
/-! words and places of a text, from the front and from the end -/
abbrev PW := List (List Nat × Nat)
def sepc (c : Nat) : Bool := decide (c ∈ [32, 10, 40, 41])
def parc (c : Nat) : Bool := decide (c ∈ [40, 41])
def wd (w : List Nat) (s : Nat) : PW := if w = [] then [] else [(w, s)]
def pr (c i : Nat) : PW := if parc c = true then [([c], i)] else []
/-- the word that begins the text from place i on, and what stands behind it -/
def tk : Nat → List Nat → List Nat × PW
  | _, [] => ([], [])
  | i, c :: r => if sepc c = true then ([], pr c i ++ (wd (tk (i + 1) r).1 (i + 1) ++ (tk (i + 1) r).2)) else (c :: (tk (i + 1) r).1, (tk (i + 1) r).2)
def all (l : List Nat) : PW := wd (tk 0 l).1 0 ++ (tk 0 l).2
theorem parc_sep {c : Nat} (h : parc c = true) : sepc c = true := by
  have h := of_decide_eq_true h
  refine decide_eq_true ?_
  simp only [List.mem_cons, List.not_mem_nil, or_false] at *
  omega
theorem tk_sep {i c : Nat} {r : List Nat} (h : sepc c = true) : tk i (c :: r) = ([], pr c i ++ (wd (tk (i + 1) r).1 (i + 1) ++ (tk (i + 1) r).2)) := by rw [tk, if_pos h]
theorem tk_no {i c : Nat} {r : List Nat} (h : sepc c = false) : tk i (c :: r) = (c :: (tk (i + 1) r).1, (tk (i + 1) r).2) := by rw [tk, if_neg (by rw [h]; decide)]
theorem wd_nil {s : Nat} : wd [] s = [] := rfl
theorem wd_cons {c : Nat} {w : List Nat} {s : Nat} : wd (c :: w) s = [(c :: w, s)] := rfl
theorem pr_no {c i : Nat} (h : parc c = false) : pr c i = [] := by unfold pr; rw [if_neg (by rw [h]; decide)]
theorem pr_yes {c i : Nat} (h : parc c = true) : pr c i = [([c], i)] := by unfold pr; rw [if_pos h]
/-- what the front walk keeps: acc is told, u begins at s and ends at i -/
def Fw (l : List Nat) (i s : Nat) (acc : PW) : Prop := s ≤ i ∧ i ≤ l.length ∧ all l = acc ++ (wd ((l.take i).drop s ++ (tk i (l.drop i)).1) s ++ (tk i (l.drop i)).2)
theorem Fw.zero (l : List Nat) : Fw l 0 0 [] := ⟨Nat.le_refl _, Nat.zero_le _, rfl⟩
theorem drop_cons {l : List Nat} {i c : Nat} (h : l[i]? = some c) : l.drop i = c :: l.drop (i + 1) := by
  obtain ⟨hi, e⟩ := List.getElem?_eq_some_iff.mp h
  rw [List.drop_eq_getElem_cons hi, e]
theorem take_snoc {l : List Nat} {i c : Nat} (h : l[i]? = some c) : l.take (i + 1) = l.take i ++ [c] := by
  rw [List.take_add_one, h]
  rfl
theorem Fw.word {l : List Nat} {i s c : Nat} {acc : PW} (f : Fw l i s acc) (h : l[i]? = some c) (hc : sepc c = false) : Fw l (i + 1) s acc := by
  obtain ⟨h1, h2, e⟩ := f
  obtain ⟨hi, _⟩ := List.getElem?_eq_some_iff.mp h
  refine ⟨by omega, hi, ?_⟩
  rw [e, drop_cons h, tk_no hc, take_snoc h, List.drop_append_of_le_length (by rw [List.length_take]; omega), List.append_assoc]
  rfl
theorem Fw.sep {l : List Nat} {i s c : Nat} {acc : PW} (f : Fw l i s acc) (h : l[i]? = some c) (hc : sepc c = true) : Fw l (i + 1) (i + 1) (acc ++ wd ((l.take i).drop s) s ++ pr c i) := by
  obtain ⟨h1, h2, e⟩ := f
  obtain ⟨hi, _⟩ := List.getElem?_eq_some_iff.mp h
  refine ⟨Nat.le_refl _, hi, ?_⟩
  have e0 : (l.take (i + 1)).drop (i + 1) = [] := List.drop_eq_nil_of_le (by rw [List.length_take]; omega)
  rw [e, drop_cons h, tk_sep hc, e0]
  simp only [List.append_nil, List.nil_append, List.append_assoc]
theorem Fw.last {l : List Nat} {s : Nat} {acc : PW} (f : Fw l l.length s acc) : all l = acc ++ wd (l.drop s) s := by
  obtain ⟨h1, h2, e⟩ := f
  rw [e, List.drop_length, List.take_length]
  simp only [tk, List.append_nil]
theorem cut_ne {l : List Nat} {i s : Nat} (h : s < i) (hi : i ≤ l.length) : wd ((l.take i).drop s) s = [((l.take i).drop s, s)] := by
  unfold wd
  rw [if_neg fun z => ?_]
  have := congrArg List.length z
  rw [List.length_drop, List.length_take, List.length_nil] at this
  omega
theorem cut_eq {l : List Nat} {i s : Nat} (h : ¬ s < i) : wd ((l.take i).drop s) s = [] := by
  rw [List.drop_eq_nil_of_le (by rw [List.length_take]; omega)]
  rfl
/-- what the walk from the end keeps -/
theorem tk_len : ∀ (l : List Nat) (i : Nat), (tk i l).1.length ≤ l.length
  | [], _ => Nat.le_refl _
  | c :: r, i => by
    have := tk_len r (i + 1)
    by_cases h : sepc c = true
    · rw [tk_sep h]; exact Nat.zero_le _
    · rw [tk_no (Bool.eq_false_iff.mpr h)]
      simp only [List.length_cons]
      omega
theorem tk_size : ∀ (l : List Nat) (i : Nat), (tk i l).2.length ≤ 2 * l.length
  | [], _ => Nat.le_refl _
  | c :: r, i => by
    have := tk_size r (i + 1)
    by_cases h : sepc c = true
    · rw [tk_sep h]
      have h1 : (pr c i).length ≤ 1 := by unfold pr; split <;> simp
      have h2 : (wd (tk (i + 1) r).1 (i + 1)).length ≤ 1 := by unfold wd; split <;> simp
      simp only [List.length_append, List.length_cons]
      omega
    · rw [tk_no (Bool.eq_false_iff.mpr h)]
      simp only [List.length_cons]
      omega
theorem all_size (l : List Nat) : (all l).length ≤ 2 * l.length + 1 := by
  have h := tk_size l 0
  have h2 : (wd (tk 0 l).1 0).length ≤ 1 := by unfold wd; split <;> simp
  unfold all
  rw [List.length_append]
  omega
theorem acc_size {l : List Nat} {i s : Nat} {acc : PW} (f : Fw l i s acc) : acc.length ≤ 2 * l.length + 1 := by
  have h := all_size l
  rw [f.2.2, List.length_append] at h
  omega
/-- before turn i of the front walk over the text with a blank behind it -/
def Post (l : List Nat) (i s : Nat) (acc : PW) : Prop := (i ≤ l.length ∧ Fw l i s acc) ∨ (i = l.length + 1 ∧ acc = all l)
theorem get_back {l : List Nat} {i c : Nat} (h : (l ++ [32])[i]? = some c) : (i < l.length ∧ l[i]? = some c) ∨ (i = l.length ∧ c = 32) := by
  by_cases hi : i < l.length
  · rw [List.getElem?_append_left hi] at h
    exact .inl ⟨hi, h⟩
  · rw [List.getElem?_append_right (by omega)] at h
    by_cases h0 : i - l.length = 0
    · rw [h0] at h
      exact .inr ⟨by omega, by simpa using h.symm⟩
    · rw [List.getElem?_eq_none (by simp; omega)] at h
      cases h
theorem post_sep {l : List Nat} {i s c : Nat} {acc : PW} (f : Fw l i s acc) (h : (l ++ [32])[i]? = some c) (hc : sepc c = true) : Post l (i + 1) (i + 1) (acc ++ wd ((l.take i).drop s) s ++ pr c i) := by
  rcases get_back h with ⟨hi, e⟩ | ⟨rfl, rfl⟩
  · exact .inl ⟨hi, f.sep e hc⟩
  · refine .inr ⟨rfl, ?_⟩
    rw [f.last, List.take_length, pr_no (by decide), List.append_nil]
theorem post_word {l : List Nat} {i s c : Nat} {acc : PW} (f : Fw l i s acc) (h : (l ++ [32])[i]? = some c) (hc : sepc c = false) : Post l (i + 1) s acc := by
  rcases get_back h with ⟨hi, e⟩ | ⟨rfl, rfl⟩
  · exact .inl ⟨hi, f.word e hc⟩
  · cases hc
/-- signs that may stand -/
def okc (c : Nat) : Bool := (decide (32 ≤ c) && decide (c ≤ 126)) || decide (c = 10)
end MS

namespace MT
open PySem PySem.Spec PyProof.Rows L2
open _root_.SX (S S_len S_cat slice_to slice_from)
section
variable {σ : L2.St} {H : Hp} {Q : VK} {l : List Nat} {c d : Nat}
def rLeS : R2 := fun x y H Q => ∃ i j : Str, x = .str i ∧ y = .str j ∧ Q (.bl (!decide (j.cps.toList < i.cps.toList))) H
theorem op_leS {X : Cx} : OpR X (compareOp .LtE) rLeS := op_le_str
theorem lt1 {a b : Nat} : ([a] < [b]) ↔ a < b := by
  constructor
  · intro h
    cases h with
    | rel h => exact h
    | cons h => cases h
  · exact fun h => .rel h
theorem w_leS (q : Q (.bl (decide (c ≤ d))) H) : rLeS (.str (S [c])) (.str (S [d])) H Q := ⟨_, _, rfl, rfl, by
  have e : (!decide ((S [d]).cps.toList < (S [c]).cps.toList)) = decide (c ≤ d) := by
    have k : (S [d]).cps.toList < (S [c]).cps.toList ↔ d < c := lt1
    by_cases h : c ≤ d
    · rw [decide_eq_true h, decide_eq_false (fun z => by have := k.mp z; omega)]; rfl
    · rw [decide_eq_false h, decide_eq_true (k.mpr (by omega))]; rfl
  rw [e]
  exact q⟩
def rMulS : R2 := fun x y H Q => ∃ (i : Str) (n : Int), x = .str i ∧ y = .int n ∧ i.length ≤ 2000 ∧ -1 ≤ n ∧ n ≤ 2000 ∧ Q (.str (Txt.mul i n)) H
theorem op_mulS {X : Cx} : OpR X (binaryOp .Mult) rMulS := by
  intro pins s σ H x y v u Q I rx ry h
  obtain ⟨i, n, rfl, rfl, h1, h2, h3, q⟩ := h
  obtain ⟨t, rfl⟩ := rx
  obtain ⟨t', rfl⟩ := ry
  exact SB.mul (mulOk_of 2000 2000 h1 h3 (by omega) (by decide) (by decide)) fun t' k => ⟨.str (Txt.mul i n), H, I.tok _, ⟨_, rfl⟩, q⟩
theorem fold_app : ∀ (xs : List (Array Nat)) (a : Array Nat), (xs.foldl (· ++ ·) a).toList = a.toList ++ (xs.map Array.toList).flatten
  | [], a => by simp
  | x :: xs, a => by
    rw [List.foldl_cons, fold_app xs, Array.toList_append, List.map_cons, List.flatten_cons, List.append_assoc]
/-- a text n times -/
def reps (n : Nat) (l : List Nat) : List Nat := (List.replicate n l).flatten
theorem reps_one (l : List Nat) : reps 1 l = l := by simp [reps]
theorem reps_len (n : Nat) (l : List Nat) : (reps n l).length = n * l.length := by simp [reps]
theorem reps_mem {n : Nat} {l : List Nat} {c : Nat} (h : c ∈ reps n l) : c ∈ l := by
  obtain ⟨x, hx, hc⟩ := List.mem_flatten.mp h
  rw [(List.mem_replicate.mp hx).2] at hc
  exact hc
theorem mul_S {n : Int} {l : List Nat} (h : 0 < n) : Txt.mul (S l) n = S (reps n.toNat l) := by
  unfold Txt.mul
  rw [if_neg (by omega)]
  split
  · rename_i h2
    rcases Bool.or_eq_true_iff.mp h2 with e | e
    · have e : n = 1 := eq_of_beq e
      subst e
      rw [show (1 : Int).toNat = 1 from rfl, reps_one]
    · have e : (S l).length = 0 := eq_of_beq e
      rw [S_len] at e
      have e := List.length_eq_zero_iff.mp e
      subst e
      have k : reps n.toNat [] = [] := List.length_eq_zero_iff.mp (by rw [reps_len]; simp)
      rw [k]
  · refine congrArg Str.mk ?_
    apply Array.ext'
    rw [fold_app]
    simp [reps, S]
theorem w_mulS {n : Int} {m : Nat} (hl : l.length ≤ 2000) (h : n = (m : Int)) (h0 : 0 < m) (hn : m ≤ 2000) (q : Q (.str (S (reps m l))) H) : rMulS (.str (S l)) (.int n) H Q := by
  subst h
  exact ⟨_, _, rfl, rfl, by rw [S_len]; exact hl, by omega, by omega, by rw [mul_S (by omega)]; exact q⟩
theorem cut_both {i j : Int} (h : 0 ≤ i) (hj : i ≤ j) (hk : j ≤ (l.length : Int)) : cutS (S l) (some i) (some j) = S ((l.take j.toNat).drop i.toNat) := by
  rw [C8.cutS_slice]
  refine (beq_iff_eq.mp (PyProof.Rows.slice_closes (x := S l) ⟨h, hj, hk⟩)).trans (TL.ext_tl ?_)
  show (l.drop i.toNat).take (j - i).toNat = (l.take j.toNat).drop i.toNat
  rw [List.drop_take, show (j - i).toNat = j.toNat - i.toNat by omega]
theorem w_cutBoth {i j : Int} (hl : l.length ≤ 100000) (h : 0 ≤ i) (hj : i ≤ j) (hk : j ≤ (l.length : Int)) (q : Q (.str (S ((l.take j.toNat).drop i.toNat))) H) : rSlS (.str (S l)) (some i) (some j) H Q := w_cut hl (by rw [cut_both h hj hk]; exact q)
end
theorem walk_enumL {l : List Nat} : Walk (Itse (S l)) l.length (fun _ => True) (fun i H v H' => ∃ T c, v = .ref T ∧ H T = none ∧ H' = upd H T (.tup [.int (i : Nat), .str (S [c])]) ∧ l[i]? = some c) := by
  have hsz : (S l).cps.size = l.length := by simp [S]
  have k := walk_enumS (z := S l)
  rw [hsz] at k
  refine k.mono (fun _ h => h) fun i H v H' hi _ y => ?_
  obtain ⟨T, c, h1, h2, h3, h4⟩ := y
  exact ⟨T, c, h1, h2, h3, by simpa [S] using h4⟩
theorem w_enumS {ta : TA} {σ : L2.St} {H : Hp} {R : It → Hp → Prop} (h : ta σ H fun vs H1 => ∃ x, vs = [.str x] ∧ R (Itse x) H1) : iEnumS ta σ H R := h
theorem w_exs {z : Str} {R : Str → Prop} (h : R z) : ∃ x, [V.str z] = [V.str x] ∧ R x := ⟨z, rfl, h⟩
theorem none_same {H H' : Hp} {p : Addr} (s : Same H H') (h : H' p = none) : H p = none := by
  cases e : H p with
  | none => rfl
  | some x => rw [s p x e] at h; cases h
/-- words with their places, as tuples of the heap -/
def Tok1 (H : Hp) (v : V) (w : List Nat × Nat) : Prop := ∃ p, v = .ref p ∧ H p = some (.tup [.str (S w.1), .int (w.2 : Nat)])
def Toks (H : Hp) (vs : List V) (ws : MS.PW) : Prop := PySem.Paired (Tok1 H) vs ws
/-- tuples stay -/
def TM (H H' : Hp) : Prop := ∀ b xs, H b = some (.tup xs) → H' b = some (.tup xs)
theorem TM.of {H H' : Hp} (s : Same H H') : TM H H' := fun b xs e => s b _ e
theorem TM.refl (H : Hp) : TM H H := fun _ _ e => e
theorem TM.trans {H H1 H2 : Hp} (a : TM H H1) (b : TM H1 H2) : TM H H2 := fun c xs e => b c xs (a c xs e)
theorem TM.new {H H' : Hp} {p : Addr} {o : HO} (s : TM H H') (n : H' p = none) : TM H (upd H' p o) := fun b xs e => by
  rw [upd_ne (ne_of_none (s b xs e) n)]
  exact s b xs e
theorem TM.lst {H H' : Hp} {p : Addr} {o : HO} {ys : List V} (s : TM H H') (n : H' p = some (.lst ys)) : TM H (upd H' p o) := fun b xs e => by
  have k := s b xs e
  have hn : b ≠ p := fun z => by rw [z, n] at k; cases k
  rw [upd_ne hn]
  exact k
theorem Toks.mono {H H' : Hp} {vs : List V} {ws : MS.PW} (t : Toks H vs ws) (m : TM H H') : Toks H' vs ws := PySem.Paired.mono (fun v w ⟨p, e, h⟩ => ⟨p, e, m p _ h⟩) t
theorem Toks.snoc {H : Hp} {vs : List V} {ws : MS.PW} {p : Addr} {w : List Nat} {i : Nat} (t : Toks H vs ws) (h : H p = some (.tup [.str (S w), .int (i : Nat)])) : Toks H (vs ++ [.ref p]) (ws ++ [(w, i)]) := PySem.Paired.snoc t ⟨p, rfl, h⟩
theorem Toks.put {H : Hp} {vs : List V} {ws : MS.PW} {p q : Addr} {w : List Nat} {i : Nat} (t : Toks H vs ws) (hp : H p = some (.lst vs)) (hq : H q = none) :
    Toks (upd (upd H q (.tup [.str (S w), .int (i : Nat)])) p (.lst (vs ++ [.ref q]))) (vs ++ [.ref q]) (ws ++ [(w, i)]) :=
  ((t.mono ((TM.refl H).new hq)).snoc upd_same).mono ((TM.refl _).lst (by rw [upd_ne (ne_of_none hp hq)]; exact hp))
end MT

local macro_rules | `(tactic| walk_at "len") => `(tactic| first
  | omega
  | (simp only [List.length_append, List.length_cons, List.length_nil, List.length_take, List.length_drop, List.length_map]; omega)
  | decide)
local macro_rules | `(tactic| walk_at "w1") => `(tactic| first
  | with_reducible refine MT.w_m0 ?_
  | with_reducible refine MT.w_m1 ?_
  | with_reducible refine MT.w_slice ?_
  | with_reducible refine MT.w_nopart ?_
  | with_reducible refine MT.w_part ?_
  | ((with_reducible refine' MT.w_cutTo ?wh ?wa ?_); (case wh => walk_at "len"); (case wa => omega))
  | ((with_reducible refine' MT.w_cutFrom ?wh ?wa ?_); (case wh => walk_at "len"); (case wa => omega))
  | ((with_reducible refine' MT.w_addS ?wh ?_); (case wh => walk_at "len"))
  | ((with_reducible refine' MT.w_ixS ?wh ?wa ?_); (case wh => walk_at "len"); (case wa => assumption))
  | with_reducible refine MT.w_in1 ?_
  | with_reducible refine MT.w_notin1 ?_
  | with_reducible refine MT.w_chain ?_
  | with_reducible refine MT.w_rng3 ?_
  | ((with_reducible refine' MT.w_lenS ?wh ?_); (case wh => walk_at "len"))
  | with_reducible refine ⟨⟨_, rfl⟩, ?_⟩
  | with_reducible refine ⟨trivial, ?_⟩
  | with_reducible refine ⟨_, _, rfl, rfl, ?_⟩
  | fail "w1")

local macro_rules | `(tactic| walk_at "w1") => `(tactic| first
  | with_reducible refine MT.w_leS ?_
  | ((with_reducible refine' MT.w_cutBoth ?wl ?wh ?wa ?wb ?_); (case wl => walk_at "len"); (case wh => omega); (case wa => omega); (case wb => omega))
  | with_reducible refine MT.w_enumS ?_
  | with_reducible refine MT.w_exs ?_
  | ((with_reducible refine' Z.w_app ?wh ?wl ?_); (case wh => walk_at "hp"); (case wl => walk_at "len"))
  | ((with_reducible refine' Z.w_tyL ?wh ?_); (case wh => walk_at "hp"))
  | with_reducible refine Z.w_bm ?_
  | fail "w1")

namespace L
open PySem PySem.Spec PyProof.Rows L2 Z
def topS (i : Nat) : Stmt := PySem.Challenge.pw_papersat_k09_words_and_places.main.body.getD i (.Pass ⟨0, 0, 0, 0⟩)
abbrev s_BadText_init : Stmt := inClass (topS 5) 0
abbrev N_BadText_init : List Str := ["self", "place"]
theorem sc_BadText_init : FnScope N_BadText_init ["self", "place"] (defScope s_BadText_init) := ⟨rfl, rfl, rfl, by decide +kernel, rfl, by decide +kernel, by decide +kernel⟩
abbrev s_scan : Stmt := topS 7
abbrev N_scan : List Str := ["text", "place", "char", "pairs", "start"]
theorem sc_scan : FnScope N_scan ["text"] (defScope s_scan) := ⟨rfl, rfl, rfl, by decide +kernel, rfl, by decide +kernel, by decide +kernel⟩
abbrev s_pool : Stmt := topS 9
abbrev N_pool : List Str := ["_law_script", "_law_k", "_law_cell", "_law_spare"]
theorem sc_pool : FnScope N_pool ["_law_script", "_law_k"] (defScope s_pool) := ⟨rfl, rfl, rfl, by decide +kernel, rfl, by decide +kernel, by decide +kernel⟩
abbrev s_take : Stmt := topS 10
abbrev N_take : List Str := ["_law_pool_here", "_law_size", "_law_k", "_law_cell", "_law_mixed"]
theorem sc_take : FnScope N_take ["_law_pool_here", "_law_size"] (defScope s_take) := ⟨rfl, rfl, rfl, by decide +kernel, rfl, by decide +kernel, by decide +kernel⟩
abbrev s_next : Stmt := topS 11
abbrev N_next : List Str := ["_law_script", "_law_k", "_law_pool_here"]
theorem sc_next : FnScope N_next ["_law_script", "_law_k", "_law_pool_here"] (defScope s_next) := ⟨rfl, rfl, rfl, by decide +kernel, rfl, by decide +kernel, by decide +kernel⟩
abbrev s_whole : Stmt := topS 12
abbrev N_whole : List Str := ["_law_value"]
theorem sc_whole : FnScope N_whole ["_law_value"] (defScope s_whole) := ⟨rfl, rfl, rfl, by decide +kernel, rfl, by decide +kernel, by decide +kernel⟩
abbrev s_menu : Stmt := topS 13
abbrev N_menu : List Str := ["_law_way", "_law_letters", "_law_signs"]
theorem sc_menu : FnScope N_menu ["_law_way"] (defScope s_menu) := ⟨rfl, rfl, rfl, by decide +kernel, rfl, by decide +kernel, by decide +kernel⟩
abbrev s_drawn : Stmt := topS 14
abbrev N_drawn : List Str := ["_law_pool_here", "_law_menu_here", "_law_size", "_law_tabs", "_law_times", "_law_text", "_law_k", "_law_at"]
theorem sc_drawn : FnScope N_drawn ["_law_pool_here"] (defScope s_drawn) := ⟨rfl, rfl, rfl, by decide +kernel, rfl, by decide +kernel, by decide +kernel⟩
abbrev s_due : Stmt := topS 15
abbrev N_due : List Str := ["_law_text", "_law_due_here", "_law_word", "_law_k", "_law_at", "_law_sign"]
theorem sc_due : FnScope N_due ["_law_text"] (defScope s_due) := ⟨rfl, rfl, rfl, by decide +kernel, rfl, by decide +kernel, by decide +kernel⟩
abbrev s_split : Stmt := topS 16
abbrev N_split : List Str := ["_law_text", "_law_due_here", "_law_turn", "_law_told", "_law_k"]
theorem sc_split : FnScope N_split ["_law_text"] (defScope s_split) := ⟨rfl, rfl, rfl, by decide +kernel, rfl, by decide +kernel, by decide +kernel⟩
abbrev s_refused : Stmt := topS 17
abbrev N_refused : List Str := ["_law_text", "_law_base", "e"]
theorem sc_refused : FnScope N_refused ["_law_text", "_law_base"] (defScope s_refused) := ⟨rfl, rfl, rfl, by decide +kernel, rfl, by decide +kernel, by decide +kernel⟩
abbrev s_fine : Stmt := topS 18
abbrev N_fine : List Str := ["_law_text", "_law_base", "_law_due_here", "_law_k", "_law_turn", "_law_place", "_law_sign"]
theorem sc_fine : FnScope N_fine ["_law_text", "_law_base"] (defScope s_fine) := ⟨rfl, rfl, rfl, by decide +kernel, rfl, by decide +kernel, by decide +kernel⟩
abbrev s_law : Stmt := topS 19
abbrev N_law : List Str := ["_law_script", "_law_pool_here", "_law_first", "_law_base", "_law_second"]
theorem sc_law : FnScope N_law ["_law_script"] (defScope s_law) := ⟨rfl, rfl, rfl, by decide +kernel, rfl, by decide +kernel, by decide +kernel⟩
def lit_0 : List Nat := [116, 104, 101, 32, 116, 101, 120, 116, 32, 99, 97, 110, 110, 111, 116, 32, 98, 101, 32, 114, 101, 97, 100, 32, 97, 116, 32]
def lit_1 : List Nat := [97, 98, 99, 100, 101, 102, 103, 104, 105, 106, 107, 108, 109, 110, 111, 112, 113, 114, 115, 116, 117, 118, 119, 120, 121, 122, 65, 66, 67, 68, 69, 70, 71, 72, 73, 74, 75, 76, 77, 78, 79, 80, 81, 82, 83, 84, 85, 86, 87, 88, 89, 90, 48, 49, 50, 51, 52, 53, 54, 55, 56, 57]
def lit_2 : List Nat := [33, 34, 35, 36, 38, 39, 42, 43, 44, 45, 46, 47, 58, 59, 60, 61, 62, 63, 64, 91, 92, 93, 94, 95, 96, 123, 124, 125, 126]
structure Txt (K : PySem.W.Frag) (mg : Str → Option Value) : Type where
  f_BadText_init : Addr
  fd_BadText_init : FuncData
  F_BadText_init : Fun K "__init__" "BadText.__init__" s_BadText_init f_BadText_init fd_BadText_init
  b_BadText_init : Binds K fd_BadText_init ["self", "place"] []
  f_scan : Addr
  fd_scan : FuncData
  F_scan : Fun K "scan" "scan" s_scan f_scan fd_scan
  b_scan : Binds K fd_scan ["text"] []
  g_scan : mg "scan" = some (.ref f_scan)
  f_pool : Addr
  fd_pool : FuncData
  F_pool : Fun K "_law_pool" "_law_pool" s_pool f_pool fd_pool
  b_pool : Binds K fd_pool ["_law_script", "_law_k"] []
  g_pool : mg "_law_pool" = some (.ref f_pool)
  f_take : Addr
  fd_take : FuncData
  F_take : Fun K "_law_take" "_law_take" s_take f_take fd_take
  b_take : Binds K fd_take ["_law_pool_here", "_law_size"] []
  g_take : mg "_law_take" = some (.ref f_take)
  f_next : Addr
  fd_next : FuncData
  F_next : Fun K "_law_next" "_law_next" s_next f_next fd_next
  b_next : Binds K fd_next ["_law_script", "_law_k", "_law_pool_here"] []
  g_next : mg "_law_next" = some (.ref f_next)
  f_whole : Addr
  fd_whole : FuncData
  F_whole : Fun K "_law_whole" "_law_whole" s_whole f_whole fd_whole
  b_whole : Binds K fd_whole ["_law_value"] []
  g_whole : mg "_law_whole" = some (.ref f_whole)
  f_menu : Addr
  fd_menu : FuncData
  F_menu : Fun K "_law_menu" "_law_menu" s_menu f_menu fd_menu
  b_menu : Binds K fd_menu ["_law_way"] []
  g_menu : mg "_law_menu" = some (.ref f_menu)
  f_drawn : Addr
  fd_drawn : FuncData
  F_drawn : Fun K "_law_drawn" "_law_drawn" s_drawn f_drawn fd_drawn
  b_drawn : Binds K fd_drawn ["_law_pool_here"] []
  g_drawn : mg "_law_drawn" = some (.ref f_drawn)
  f_due : Addr
  fd_due : FuncData
  F_due : Fun K "_law_due" "_law_due" s_due f_due fd_due
  b_due : Binds K fd_due ["_law_text"] []
  g_due : mg "_law_due" = some (.ref f_due)
  f_split : Addr
  fd_split : FuncData
  F_split : Fun K "_law_split" "_law_split" s_split f_split fd_split
  b_split : Binds K fd_split ["_law_text"] []
  g_split : mg "_law_split" = some (.ref f_split)
  f_refused : Addr
  fd_refused : FuncData
  F_refused : Fun K "_law_refused" "_law_refused" s_refused f_refused fd_refused
  b_refused : Binds K fd_refused ["_law_text", "_law_base"] []
  g_refused : mg "_law_refused" = some (.ref f_refused)
  f_fine : Addr
  fd_fine : FuncData
  F_fine : Fun K "_law_fine" "_law_fine" s_fine f_fine fd_fine
  b_fine : Binds K fd_fine ["_law_text", "_law_base"] []
  g_fine : mg "_law_fine" = some (.ref f_fine)
  f_law : Addr
  fd_law : FuncData
  F_law : Fun K "law" "law" s_law f_law fd_law
  b_law : Binds K fd_law ["_law_script"] []
  g_law : mg "law" = some (.ref f_law)
  m_len : mg "len" = none
  m_int : mg "int" = none
  m_isinstance : mg "isinstance" = none
  m_range : mg "range" = none
  m_bool : mg "bool" = none
  m_str : mg "str" = none
  m_list : mg "list" = none
  m_tuple : mg "tuple" = none
  m_enumerate : mg "enumerate" = none
  m_reversed : mg "reversed" = none
  m_ValueError : mg "ValueError" = none
  C_BadText : Addr
  c_BadText : mg "BadText" = some (.ref C_BadText)
  C_PaperError : Addr
  c_PaperError : mg "PaperError" = some (.ref C_PaperError)
  C_UnknownName : Addr
  c_UnknownName : mg "UnknownName" = some (.ref C_UnknownName)
  C_NameTaken : Addr
  c_NameTaken : mg "NameTaken" = some (.ref C_NameTaken)
  C_BadSort : Addr
  c_BadSort : mg "BadSort" = some (.ref C_BadSort)
  xb_PaperError : X2.XB K C_PaperError
  xo_BadText : X2.XO K C_BadText f_BadText_init "place"
  e_BadText_BadText : PySem.W.exmOne K (.ref C_BadText) (.ref C_BadText) = some true
  e_BadText_PaperError : PySem.W.exmOne K (.ref C_BadText) (.ref C_PaperError) = some true
  k_BadText_UnknownName : PySem.W.kitOne K (.ref C_BadText) (.ref C_UnknownName) = some false
  k_BadText_NameTaken : PySem.W.kitOne K (.ref C_BadText) (.ref C_NameTaken) = some false
  k_BadText_BadSort : PySem.W.kitOne K (.ref C_BadText) (.ref C_BadSort) = some false
  k_BadText_BadText : PySem.W.kitOne K (.ref C_BadText) (.ref C_BadText) = some true
  k_BadText_ValueError : PySem.W.kitOne K (.ref C_BadText) (.type "ValueError") = some true
end L

namespace L
open PySem PySem.Spec PyProof.Rows L2 Z
section
variable {P : Program} {w : World} {K : PySem.W.Frag} {mg : Str → Option Value} {base : Heap}
def spPool (K : PySem.W.Frag) : Sp := fun vs H Q _ => ∃ (a : Addr) (ns : List Int) (k : Int), vs = [.ref a, .int k] ∧ SqL K H a (ns.map V.int) ∧ ns.length ≤ 1000 ∧ 0 ≤ k ∧ k < 2 ^ 62 ∧ ∀ q o, H q = none → IsPool o → Q (.ref q) (upd H q o)
def spTake : Sp := fun vs H Q _ => ∃ (q : Addr) (o : HO) (n : Int), vs = [.ref q, .int n] ∧ H q = some o ∧ IsPool o ∧ 0 < n ∧ n < 1073741824 ∧ ∀ r o', 0 ≤ r → r < n → IsPool o' → Q (.int r) (upd H q o')
theorem ok_take (T : Txt K mg) : FnOk P w K mg base CX0 1 T.f_take T.fd_take ["_law_pool_here", "_law_size"] spTake := by
  refine T.F_take.ok sc_take (fun vs H Q E h => ?_) (fun cdv A outer s H vs Q E hr h => ?_)
  · obtain ⟨q, o, n, rfl, _⟩ := h
    rfl
  · obtain ⟨q, o, n, rfl, ho, ⟨c, k, b, s', rfl⟩, hn, hn2, hq⟩ := h
    refine ⟨_, (pss_cons (ps_set (i := 2) sc_take.nd rfl (.inl rfl) (pe_ix ix_list (pv 0) pe_int (fun _ _ => rfl)))
 (pss_cons (ps_asg (pe_op op_add (pv 2) pe_int) (pg_sub (pv 0) pe_int set_list))
 (pss_cons (ps_set (i := 3) sc_take.nd rfl (.inl rfl) (pe_ix ix_list (pv 0) pe_int (fun _ _ => rfl)))
 (pss_cons (ps_if (PW.pt (pw_and (pt_val (pe_ix ix_list (pv 0) pe_int (fun _ _ => rfl))) (pw_and1 (pt_cmpR op_gt (pv 3) pe_int (nomark _))))) (pss_cons (ps_asg (pe_op op_fdiv (pv 3) (pv 1)) (pg_sub (pv 0) pe_int set_list))
 (pss_one (ps_ret (pe_op op_mod (pe_callTy call_int1 (by rfl) T.m_int (by decide +kernel) (pa_cons (pv 3) pa_nil)) (pv 1))))) pss_nil)
 (pss_cons (ps_if (pt_val (pe_ix ix_list (pv 0) pe_int (fun _ _ => rfl))) (pss_one (ps_set (i := 3) sc_take.nd rfl (.inl rfl) (pe_ix ix_list (pv 0) pe_int (fun _ _ => rfl)))) pss_nil)
 (pss_cons (ps_set (i := 4) sc_take.nd rfl (.inl rfl) (pe_op op_mod (pe_callTy call_int1 (by rfl) T.m_int (by decide +kernel) (pa_cons (pe_op op_add (pe_op op_add (pv 3) (pe_op op_mul pe_int (pv 2))) pe_int) pa_nil)) pe_int))
 (pss_cons (ps_set (i := 4) sc_take.nd rfl (.inl rfl) (pe_op op_mod (pe_callTy call_int1 (by rfl) T.m_int (by decide +kernel) (pa_cons (pe_op op_mul (pv 4) (pe_op op_add (pv 4) pe_int)) pa_nil)) pe_int))
 (pss_cons (ps_set (i := 4) sc_take.nd rfl (.inl rfl) (pe_op op_mod (pe_callTy call_int1 (by rfl) T.m_int (by decide +kernel) (pa_cons (pe_op op_add (pe_op op_mul (pv 4) (pe_op op_add (pv 4) pe_int)) (pe_op op_mul pe_int (pv 2))) pa_nil)) pe_int))
 (pss_one (ps_ret (pe_op op_mod (pe_callTy call_int1 (by rfl) T.m_int (by decide +kernel) (pa_cons (pe_op op_fdiv (pv 4) pe_int) pa_nil)) (pv 1)))))))))))), ?_⟩
    refine Z.w_start (σ' := [some (.ref q), some (.int n), none, none, none]) rfl ?_
    walk_at "w"
    cases b with
    | true =>
      walk_at "w"
      walk_at "wi"
      all_goals walk_at "w"
      all_goals exact hq _ _ (Int.emod_nonneg _ (by omega)) (Int.emod_lt_of_pos _ hn) ⟨_, _, _, _, rfl⟩
    | false =>
      walk_at "w"
      all_goals exact hq _ _ (Int.emod_nonneg _ (by omega)) (Int.emod_lt_of_pos _ hn) ⟨_, _, _, _, rfl⟩
theorem ok_pool (T : Txt K mg) : FnOk P w K mg base CX0 1 T.f_pool T.fd_pool ["_law_script", "_law_k"] (spPool K) := by
  refine T.F_pool.ok sc_pool (fun vs H Q E h => ?_) (fun cdv A outer s H vs Q E hr h => ?_)
  · obtain ⟨a, ns, k, rfl, _⟩ := h
    rfl
  · obtain ⟨a, ns, k, rfl, hS, hl, hk, hk2, hq⟩ := h
    refine ⟨_, (pss_cons (ps_set (i := 2) sc_pool.nd rfl (.inl rfl) (pe_op op_add (pe_op op_mul pe_int (pv 1)) pe_int))
 (pss_cons (ps_set (i := 3) sc_pool.nd rfl (.inl rfl) (pe_op op_add (pe_op op_mul pe_int (pv 1)) pe_int))
 (pss_cons (ps_if (pt_cmpR op_lt (pv 1) (pe_callB call_len_seq (by rfl) T.m_len (by decide +kernel) (pa_cons (pv 0) pa_nil)) (nomark _)) (pss_one (ps_set (i := 2) sc_pool.nd rfl (.inl rfl) (pe_ix ix_list (pv 0) (pv 1) (fun _ _ => rfl)))) pss_nil)
 (pss_cons (ps_if (pt_cmpR op_lt (pe_op op_add (pv 1) pe_int) (pe_callB call_len_seq (by rfl) T.m_len (by decide +kernel) (pa_cons (pv 0) pa_nil)) (nomark _)) (pss_one (ps_set (i := 3) sc_pool.nd rfl (.inl rfl) (pe_ix ix_list (pv 0) (pe_op op_add (pv 1) pe_int) (fun _ _ => rfl)))) pss_nil)
 (pss_one (ps_ret (pe_lst (pa_cons (pv 2) (pa_cons pe_int (pa_cons (pe_cmpR op_ge (pv 2) (pe_op op_pow pe_int pe_int) (nomark _)) (pa_cons (pv 3) pa_nil))))))))))), ?_⟩
    refine Z.w_start (σ' := [some (.ref a), some (.int k), none, none]) rfl ?_
    by_cases h1 : k < ns.length
    · obtain ⟨z1, a1, _⟩ := pick hk h1
      by_cases h2 : k + 1 < ns.length
      · obtain ⟨z2, a2, _⟩ := pick (by omega) h2
        walk_at "w"
        exact hq _ _ (by assumption) ⟨_, _, _, _, rfl⟩
      · walk_at "w"
        exact hq _ _ (by assumption) ⟨_, _, _, _, rfl⟩
    · walk_at "w"
      exact hq _ _ (by assumption) ⟨_, _, _, _, rfl⟩
end
end L

namespace L
open PySem PySem.Spec PyProof.Rows L2 Z
/-! what a draw from the pool at q leaves of the heap -/

def SX (q : Addr) (H H' : Hp) : Prop := ∀ b x, b ≠ q → H b = some x → H' b = some x
theorem SX.refl {q : Addr} (H : Hp) : SX q H H := fun _ _ _ e => e
theorem SX.trans {q : Addr} {H H1 H2 : Hp} (a : SX q H H1) (b : SX q H1 H2) : SX q H H2 := fun c x n e => b c x n (a c x n e)
theorem SX.at {q : Addr} {H H' : Hp} {o : HO} (s : SX q H H') : SX q H (upd H' q o) := fun b x n e => by rw [upd_ne n]; exact s b x n e
theorem SX.fresh {q p : Addr} {H H' : Hp} {o : HO} (s : SX q H H') (h : H' p = none) : SX q H (upd H' p o) := fun b x n e => by
  rw [upd_ne (ne_of_none (s b x n e) h)]
  exact s b x n e
theorem SX.own {q p : Addr} {H H' : Hp} {o : HO} (s : SX q H H') (h : H p = none) : SX q H (upd H' p o) := fun b x n e => by
  rw [upd_ne (ne_of_none e h)]
  exact s b x n e
theorem SX.same {q : Addr} {H H' : Hp} {o : HO} (h : H q = none) (s : SX q (upd H q o) H') : Same H H' := fun b x e => by
  have n : b ≠ q := ne_of_none e h
  exact s b x n (by rw [upd_ne n]; exact e)
theorem SX.free {q p : Addr} {H H' : Hp} {o : HO} (s : SX q H H') (hq : H' q = some o) (h : H' p = none) : H p = none := by
  cases e : H p with
  | none => rfl
  | some x => rw [s p x (Ne.symm (ne_of_none hq h)) e] at h; cases h
theorem SX.of {q : Addr} {H H1 H' : Hp} (s : SX q H H1) (t : Same H1 H') : SX q H H' := fun b x n e => t b x (s b x n e)
/-- the pool has been drawn from, new things may stand -/
def DX (q : Addr) (H H' : Hp) : Prop := SX q H H' ∧ ∃ o, H' q = some o ∧ IsPool o
theorem DX.take {q : Addr} {H H' : Hp} {o : HO} (s : SX q H H') (hp : IsPool o) : DX q H (upd H' q o) := ⟨s.at, o, upd_same, hp⟩
theorem DX.one {q : Addr} {H : Hp} {o : HO} (hp : IsPool o) : DX q H (upd H q o) := ⟨(SX.refl H).at, o, upd_same, hp⟩
theorem DX.trans {q : Addr} {H H1 H2 : Hp} (a : DX q H H1) (b : DX q H1 H2) : DX q H H2 := ⟨a.1.trans b.1, b.2⟩
theorem DX.fresh {q p : Addr} {H H' : Hp} {o : HO} (s : DX q H H') (h : H' p = none) : DX q H (upd H' p o) := by
  obtain ⟨a, o', b, c⟩ := s
  exact ⟨a.fresh h, o', by rw [upd_ne (ne_of_none b h)]; exact b, c⟩
theorem DX.same {q : Addr} {H H' : Hp} {o : HO} (h : H q = none) (s : DX q (upd H q o) H') : Same H H' := SX.same h s.1
end L

namespace L
open PySem PySem.Spec PyProof.Rows L2 Z
section
variable {P : Program} {w : World} {K : PySem.W.Frag} {mg : Str → Option Value} {base : Heap}
def spWhole : Sp := fun vs H Q _ => ∃ i : Int, vs = [.int i] ∧ Q (.bl true) H
theorem use_whole {i : Int} {H : Hp} {Q : VK} {E : XK} (q : Q (.bl true) H) : spWhole [.int i] H Q E := ⟨i, rfl, q⟩
theorem ok_whole (T : Txt K mg) : FnOk P w K mg base CX0 1 T.f_whole T.fd_whole ["_law_value"] spWhole := by
  refine T.F_whole.ok sc_whole (fun vs H Q E h => ?_) (fun cdv A outer s H vs Q E hr h => ?_)
  · obtain ⟨i, rfl, _⟩ := h
    rfl
  · obtain ⟨i, rfl, hq⟩ := h
    refine ⟨_, (pss_one (ps_ret (pe_and (pe_callB call_isi (by rfl) T.m_isinstance (by decide +kernel) (pa_cons (pv 0) (pa_cons (pe_bltn (v := .ty "int") (by rfl) T.m_int (by decide +kernel) rfl) pa_nil))) (pe_one (pe_not (pe_callB call_isi (by rfl) T.m_isinstance (by decide +kernel) (pa_cons (pv 0) (pa_cons (pe_bltn (v := .ty "bool") (by rfl) T.m_bool (by decide +kernel) rfl) pa_nil)))))))), ?_⟩
    refine Z.w_start (σ' := [some (.int i)]) rfl ?_
    walk_at "w"
    exact hq
end
end L

namespace L
open PySem PySem.Spec PyProof.Rows L2 Z
section
variable {P : Program} {w : World} {K : PySem.W.Frag} {mg : Str → Option Value} {base : Heap}
theorem use_take {q : Addr} {o : HO} {n : Int} {H : Hp} {Q : VK} {E : XK} (h : H q = some o) (hp : IsPool o) (h1 : 0 < n) (h2 : n < 1073741824) (hq : ∀ r o', 0 ≤ r → r < n → IsPool o' → Q (.int r) (upd H q o')) : spTake [.ref q, .int n] H Q E := ⟨q, o, n, rfl, h, hp, h1, h2, hq⟩
theorem use_takeU {q : Addr} {o : HO} {n : Int} {H : Hp} {Q : VK} {E : XK} (hp : IsPool o) (h1 : 0 < n) (h2 : n < 1073741824) (hq : ∀ r o', 0 ≤ r → r < n → IsPool o' → Q (.int r) (upd H q o')) : spTake [.ref q, .int n] (upd H q o) Q E := ⟨q, o, n, rfl, upd_same, hp, h1, h2, fun r o' a b c => by rw [upd_upd]; exact hq r o' a b c⟩
theorem use_pool {a : Addr} {ns : List Int} {k : Int} {H : Hp} {Q : VK} {E : XK} (hS : SqL K H a (ns.map V.int)) (hl : ns.length ≤ 1000) (h0 : 0 ≤ k) (h1 : k < 2 ^ 62) (h : ∀ q o, H q = none → IsPool o → Q (.ref q) (upd H q o)) : spPool K [.ref a, .int k] H Q E := ⟨a, ns, k, rfl, hS, hl, h0, h1, h⟩
end
end L

local macro_rules | `(tactic| walk_at "w1") => `(tactic| first
  | ((with_reducible refine' L.use_takeU ?wp ?wa ?wb (fun r o' h0 h1 hp => ?_)); (case wp => assumption); (case wa => omega); (case wb => omega))
  | ((with_reducible refine' L.use_take ?wh ?wp ?wa ?wb (fun r o' h0 h1 hp => ?_)); (case wh => walk_at "hp"); (case wp => assumption); (case wa => omega); (case wb => omega))
  | ((with_reducible refine' L.use_takeU ?wp ?wa ?wb (fun r o' h0 h1 hp => ?_)); (case wp => assumption); (case wa => walk_at "sz"); (case wb => walk_at "sz"))
  | ((with_reducible refine' L.use_take ?wh ?wp ?wa ?wb (fun r o' h0 h1 hp => ?_)); (case wh => walk_at "hp"); (case wp => assumption); (case wa => walk_at "sz"); (case wb => walk_at "sz"))
  | with_reducible refine L.use_whole ?_
  | fail "w1")

namespace X2
open PySem PySem.Spec PyProof.Rows L2
theorem w_ost1 {K : PySem.W.Frag} {σ : L2.St} {H : Hp} {D : Ends} {f : Str} {a C : Addr} {y : V} {j k : Nat} (e1 : σ[k]? = some (some y)) (e2 : σ[j]? = some (some (.ref a))) (T : OexC K C) (no : PySem.W.findIn K (.ref C) f = some none) (h : H a = some (exo a C none)) (q : ∀ dx, H dx = none → dx ≠ a → D.nx σ (upd (upd H dx (exd dx [(f, y)])) a (exo a C (some dx)))) :
    tOst K f (tVar j) (tVar k) D σ H := ⟨y, e1, .ref a, e2, a, C, rfl, T, no, .inl ⟨h, q⟩⟩
end X2
namespace X2
open PySem PySem.Spec PyProof.Rows L2
open _root_.SX (S S_len S_cat)
section
variable {σ : L2.St} {H : Hp} {Q : VK} {te t : TE} {ts : List TE} {a m : List Nat} {R : Str → Hp → Prop}
def rFmt : V → Hp → VK → Prop := fun x H1 Q => (∃ y : Str, x = .str y ∧ y.length ≤ sizeLine ∧ Q (.str y) H1) ∨ ∃ i : Int, x = .int i ∧ i.natAbs.log2 < 1920 ∧ Q (.str (toString i)) H1
theorem w_fmt (h : te σ H fun x H1 => rFmt x H1 Q) : tFmt te σ H Q := h
theorem use_fmt (hl : m.length ≤ 100000) (q : Q (.str (S m)) H) : rFmt (.str (S m)) H Q := .inl ⟨_, rfl, by rw [S_len]; exact Nat.le_trans hl (by decide), q⟩
def rJ (ts : List TE) (acc : Str) (σ : L2.St) : V → Hp → (Str → Hp → Prop) → Prop := fun x H1 R => ∃ y : Str, x = .str y ∧ (acc ++ y).length ≤ sizeLine ∧ tJs ts (acc ++ y) σ H1 R
theorem w_j0 (h : tJs ts (S []) σ H R) : tJs ts Str.empty σ H R := h
theorem w_j1 {acc : Str} (h : t σ H fun x H1 => rJ ts acc σ x H1 R) : tJs (t :: ts) acc σ H R := h
theorem use_j (hl : (a ++ m).length ≤ 100000) (h : tJs ts (S (a ++ m)) σ H R) : rJ ts (S a) σ (.str (S m)) H R := ⟨_, rfl, by rw [S_cat, S_len]; exact Nat.le_trans hl (by decide), by rw [S_cat]; exact h⟩
theorem w_fmtI1 {i : Int} {j : Nat} (e : σ[j]? = some (some (.int i))) (hi : i.natAbs < 10 ^ 60) (q : Q (.str (S (MT.nz i))) H) : tFmtR (tVar j) σ H Q := w_fmtI e (log_int hi) (by rw [← MT.S_nz] at q; exact q)
theorem nz_len60 {i : Int} (hi : i.natAbs < 10 ^ 60) : (MT.nz i).length ≤ 61 := by
  have k := TL.numL_len (n := i.natAbs) (k := 60) (by decide) hi
  unfold MT.nz
  split
  · rw [List.length_cons]
    omega
  · omega
theorem w_jn1 {acc : Str} (h : R acc H) : tJs [] acc σ H R := h
end
end X2

namespace X2
open PySem PySem.Spec PyProof.Rows L2
/-- C(e, ..) as what is raised, told with its context, where nothing is handled -/
theorem pmkN {X : Cx} {CW : CXT} {x : Str} {e : Expr} {es : List Expr} {ta : TA} {p pos : Pos} {C fI : Addr} {k : Nat} {fd : FuncData} {ps : List Str} {sp : Sp} (T : OexC X.K C)
    (ic : PySem.W.findIn X.K (.ref C) "__init__" = some (some (.ref fI))) (ti : PySem.W.typeIn X.K (.ref fI) = some (.type "function"))
    (G : FnOk X.prog X.w X.K X.mg X.base CW k fI fd ps sp) (room : Room (k + 1) X.A) (bi : Binds X.K fd ps []) (pass : Passes CW X (fun _ _ _ => False)) (gl : Gl X x) (mm : X.mg x = some (.ref C)) (ha : PA X (e :: es) ta)
    (hdb : (x == ("__debug__" : Str)) = false := by decide) (he : starEach (e :: es) X.env = (false, eval e X.env) :: starEach es X.env := by rfl) (hpl : (backTo pos (starEach es X.env)).any (·.1) = false := by rfl) :
    L2N.PMk X (.Call (.Name x p) (e :: es) [] pos) (tMkO C sp [] ta) := by
  intro pins s σ H R J q0
  obtain ⟨c1, c2, c3, c4, bm, c5, c6, c7, c8, c9, c10, c11, c12, c13, c14, hC, hbm⟩ := T.cls
  refine wpAny_Call_Name_kw (ld_glob J gl mm ?_ hdb)
  refine PySem.W.callWith_K (h₀ := X.base) J.ok.mod.kin T.kC (thn (ha.run pos pins s σ H _ J q0) fun args t1 w1 => ?_) he hpl
  obtain ⟨vals, Hs, J1, rel, small, cont⟩ := w1
  refine ⟨J1.kIn, ?_⟩
  show wpAny _ _ (call (.ref C) args) _ _ _
  obtain ⟨hp, gs, dr, tk, os⟩ := t1
  let N := hp.objs.size + 1
  have le : hp.objs.size ≤ N := Nat.le_succ _
  have free : Hs N = none := J1.hok.fresh le
  have wish := cont N free
  let h2 := (hp.push (PySem.W.kdv_tup args)).push (PySem.HandSPX.excO C hp.objs.size)
  have keep : ∀ b o, hp.get? b = some o → h2.get? b = some o := fun b o z => Heap.get?_push_of_some _ (Heap.get?_push_of_some _ z)
  have made : h2.get? N = some (PySem.HandSPX.excO C hp.objs.size) := by
    show Heap.get? (Heap.push (hp.push (PySem.W.kdv_tup args)) (PySem.HandSPX.excO C hp.objs.size)) (hp.objs.size + 1) = _
    heap_get
  have J2 : Inv X pins σ (upd Hs N (exo N C none)) ⟨h2, gs, dr, tk, os⟩ := J1.laid (t' := tk) (a := N) (o := exo N C none) (h' := h2) keep le (exo_ok made)
  have rel2 : Vals (V.ref N :: (vals ++ [])) (Value.ref N :: (args ++ [])) := .cons rfl (rel.append .nil)
  have cnt : (Value.ref N :: args ++ []).length = ps.length := by
    have z := rel2.length
    rw [G.len _ _ _ _ wish] at z
    exact z.symm
  have fit : args.length ≤ sizeLine := by
    rw [← Paired.length rel, sizeLine_eq]
    omega
  have run := G.run _ X.stack _ _ ⟨Value.ref N :: args, []⟩ (Value.ref N :: (args ++ [])) _ _ (fun _ _ _ => False) (room.make C args []) (J2.env0.make C args []) (show BindsTo _ fd ⟨Value.ref N :: args, []⟩ (ps.zip (Value.ref N :: (args ++ []))) from bi _ (Value.ref N :: args) J2.kIn cnt) rel2 wish
  refine wpAny_call (PySem.HandSPX.call_own F.excBase_ValueError (fun Y => PySem.HandSPX.refsVE_contains Y bm hbm) (J1.kIn _ _ hC) (PySem.W.looks_findIn J1.kIn ic) (fun self => PySem.W.bind_fn J1.kIn self ti) fit (codeAny_mono run fun r t2 out => ?_))
  cases r with
  | error er => exact pass pins σ _ _ er t2 J2 out
  | ok fl =>
    cases fl with
    | ret u =>
      obtain ⟨v, H2, os2, bare2, un2, ok2, rv, ev, d, fs, ea, ed, hd1, q2⟩ := out
      subst ev
      obtain ⟨hh, g2, d2, t2', os'⟩ := t2
      refine ⟨rv, ?_⟩
      obtain ⟨t0, G0, Jn, kG, gone, there, na⟩ := mk_end0 (d2 := d2) (t2 := t2') J1 le keep un2 ok2 os2 bare2 ea ed hd1
      exact ⟨N, _, _, ⟨G0, g2, d2, t2', os'⟩, _, .ref C, some d, rfl, Jn, kG, gone, there, ⟨rfl, rfl, fun vs z => by cases z; rfl⟩, rfl, rfl, na, rfl, bare2, raises_own T.exC T.tyC, q2⟩
    | next => exact out.elim
    | brk => exact out.elim
    | cont => exact out.elim
/-- in a suite over an exception whose context is told -/
theorem hot_of {X : Cx} {a : Addr} {oe : Obj} {cls : Value} {d : Option Addr} {pn : List (Addr × Obj)} (hz : L2N.Zn cls d oe) (hf : ∃ vs, oe.data = .fields vs) : L2H.HotC (X.suite a ((a, oe) :: pn)) := by
  obtain ⟨vs, hv⟩ := hf
  exact ⟨(a, oe), ⟨rfl, vs, hv, hz.2.2 vs hv⟩, List.mem_cons_self⟩
end X2
namespace X2
open PySem PySem.Spec PyProof.Rows L2
section
variable {P : Program} {w : World} {K : PySem.W.Frag} {mg : Str → Option Value} {base : Heap} {x qual : Str} {st : Stmt} {f : Addr} {fd : FuncData} {N ps : List Str} {k : Nat} {sp : Sp}
/-- a def that may raise, what flies told with its context -/
theorem okN (F : Fun K x qual st f fd) (S : FnScope N ps (defScope st)) (len : ∀ vs H Q E, sp vs H Q E → vs.length = ps.length)
    (b : ∀ (cdv : Value) (A : Around) (outer : List Env) (s : Shared) (H : Hp) (vs : List V) (Q : VK) (E : XK), Room k (A.deeper (envOfC qual (defScope st) s.heap.objs.size f cdv)) → sp vs H Q E → ∃ t, PSs (cxOf (L2N.CX P w) P w K mg base N qual (defScope st) f cdv A outer s H E) (defBody st) t ∧ t { nx := fun _ H' => Q .non H', rt := Q } (start N vs) H) :
    FnOk P w K mg base (L2N.CX P w) (k + 1) f fd ps sp := by
  obtain ⟨_, _, _, _, _, _, _, _, _, rfl, place, code⟩ := F.ex
  exact fn_of place code S len fun A outer s H vs Q E room want => b _ A outer s H vs Q E room want
/-- a def that is called while an exception is handled -/
theorem okH (F : Fun K x qual st f fd) (S : FnScope N ps (defScope st)) (len : ∀ vs H Q E, sp vs H Q E → vs.length = ps.length)
    (b : ∀ (cdv : Value) (A : Around) (outer : List Env) (s : Shared) (H : Hp) (vs : List V) (Q : VK) (E : XK) (p : Addr × Obj), L2H.Hot1 A p → L2H.RoomH k (A.deeper (envOfC qual (defScope st) s.heap.objs.size f cdv)) → sp vs H Q E →
      ∃ t, PSs (L2H.cxH CX0 P w K mg base N qual (defScope st) f cdv A outer s H E p) (defBody st) t ∧ t { nx := fun _ H' => Q .non H', rt := Q } (start N vs) H) : L2H.FnH P w K mg base CX0 (k + 1) f fd ps sp := by
  obtain ⟨_, _, _, _, _, _, _, _, _, rfl, place, code⟩ := F.ex
  exact L2H.fn_ofH place code S len fun A outer s H vs Q E p hot room want => b _ A outer s H vs Q E p hot room want
end
theorem passN {X : Cx} : Passes (L2N.CX X.prog X.w) X E0 := fun _ _ _ _ _ _ _ h => by
  obtain ⟨_, _, _, _, _, _, _, _, _, _, _, _, no⟩ := h
  exact no.elim
theorem takesN {X : Cx} : L2N.Takes X (fun _ _ _ _ => False) := fun _ _ x => by
  obtain ⟨_, _, _, _, _, _, _, _, _, _, _, _, _, _, _, _, no⟩ := x
  exact no.elim
theorem passH {X : Cx} {E : L2.St → XK} : ∀ σ, PassesAt CX0 X σ (E σ) := fun _ _ _ _ _ _ _ h => h.elim
theorem w_callSH {sp : Sp} {E : L2.St → XK} {t1 : TA} {σ : L2.St} {H : Hp} {Q : VK} (h : t1 σ H fun vs H1 => sp vs H1 Q (E σ)) : tCallS sp E t1 σ H Q := h
end X2

local macro_rules | `(tactic| walk_at "w1") => `(tactic| first
  | with_reducible refine X2.w_j0 ?_
  | with_reducible refine X2.w_j1 ?_
  | ((with_reducible refine' X2.use_j ?wh ?_); (case wh => walk_at "len"))
  | with_reducible refine X2.w_jn1 ?_
  | with_reducible refine X2.w_fmt ?_
  | ((with_reducible refine' X2.use_fmt ?wh ?_); (case wh => walk_at "len"))
  | fail "w1")

namespace MT
open PySem PySem.Spec PyProof.Rows L2
open _root_.SX (S)
section
variable {H : Hp} {Q : VK} {l m : List Nat}
theorem w_rEqS (q : Q (.bl (decide (l = m))) H) : rEq (.str (S l)) (.str (S m)) H Q := ⟨rfl, by
  have e : decide (V.str (S l) = V.str (S m)) = decide (l = m) := by
    by_cases h : l = m
    · rw [decide_eq_true h, decide_eq_true (vS_eq.mpr h)]
    · rw [decide_eq_false h, decide_eq_false (fun k => h (vS_eq.mp k))]
  rw [e]
  exact q⟩
theorem w_rNeS (q : Q (.bl (!decide (l = m))) H) : rNe (.str (S l)) (.str (S m)) H Q := ⟨rfl, by
  have e : decide (V.str (S l) = V.str (S m)) = decide (l = m) := by
    by_cases h : l = m
    · rw [decide_eq_true h, decide_eq_true (vS_eq.mpr h)]
    · rw [decide_eq_false h, decide_eq_false (fun k => h (vS_eq.mp k))]
  rw [e]
  exact q⟩
theorem leafN {a b : Nat} (h : a = b) (hq : Q (.int (a : Nat)) H) : Q (.int (b : Nat)) H := h ▸ hq
end
end MT

local macro_rules | `(tactic| walk_at "w1") => `(tactic| first
  | with_reducible refine MT.w_rEqS ?_
  | with_reducible refine MT.w_rNeS ?_
  | fail "w1")

namespace L
open PySem PySem.Spec PyProof.Rows L2 Z MT X2
open _root_.SX (S S_len S_cat S_inj)
section
variable {P : Program} {w : World} {K : PySem.W.Frag} {mg : Str → Option Value} {base : Heap}
def spBadText (C : Addr) : Sp := fun vs H Q E => ∃ i : Int, i.natAbs < 10 ^ 60 ∧ InitEnd C "place" (.int i) vs H Q E
theorem ok_badtext (T : Txt K mg) : FnOk P w K mg base CX0 1 T.f_BadText_init T.fd_BadText_init ["self", "place"] (spBadText T.C_BadText) := by
  refine T.F_BadText_init.ok sc_BadText_init (fun vs H Q E h => ?_) (fun cdv A outer s H vs Q E hr h => ?_)
  · obtain ⟨i, _, a, rfl, _⟩ := h
    rfl
  · obtain ⟨i, hi, a, rfl, ha, h⟩ := h
    refine ⟨_, (pss_cons (ps_expr (X2.pe_binit (by rfl) T.c_PaperError T.xb_PaperError (pa_cons (pv 0) (pa_cons (pe_joined (PJ.cons (MT.pe_strS (l := lit_0) (by decide +kernel)) (PJ.cons (pe_fmtR (pv 1)) PJ.nil))) pa_nil))))
 (pss_one (ps_ost (pv 0) (pv 1)))), ?_⟩
    refine Z.w_start (σ' := [some (.ref a), some (.int i)]) rfl ?_
    have hl := nz_len60 hi
    refine w_seq (w_drop (w_veI ?_))
    walk_at "w"
    refine w_fmtI1 rfl hi ?_
    have h27 : lit_0.length = 27 := rfl
    refine use_j (by rw [List.nil_append, List.length_append]; omega) ?_
    walk_at "w"
    refine use_veI T.xo_BadText.ox ha ?_
    exact w_ost1 rfl rfl T.xo_BadText.ox T.xo_BadText.no ha h
theorem use_badtext {C : Addr} {i : Int} (hi : i.natAbs < 10 ^ 60) (vs : List V) (H : Hp) (Q : VK) (E : XK) (h : InitEnd C "place" (.int i) vs H Q E) : spBadText C vs H Q E := ⟨i, hi, h⟩
def spScan (C : Addr) : Sp := fun vs H Q E => ∃ l : List Nat, vs = [.str (S l)] ∧ l.length ≤ 2000 ∧
  (l.all MS.okc = true → ∀ (p : Addr) (ps : List V) H', Same H H' → H p = none → H' p = some (.lst ps) → Toks H' ps (MS.all l) → Q (.ref p) H') ∧
  (∀ (a : List Nat) (c : Nat) (b : List Nat), l = a ++ c :: b → a.all MS.okc = true → MS.okc c = false → ∀ d H', Same H H' → H' d = some (.xd [("place", .int (a.length : Nat))]) → E (.ref C) (some d) H')
theorem ok_scan (T : Txt K mg) : FnOk P w K mg base (L2N.CX P w) 3 T.f_scan T.fd_scan ["text"] (spScan T.C_BadText) := by
  have G_BadText_init := ok_badtext (P := P) (w := w) (base := base) T
  refine okN T.F_scan sc_scan (fun vs H Q E h => ?_) (fun cdv A outer s H vs Q E hr h => ?_)
  · obtain ⟨l, rfl, _⟩ := h
    rfl
  · obtain ⟨l, rfl, hl, h1, h2⟩ := h
    refine ⟨_, (pss_cons (ps_for (passes_of rfl) rfl (pi_enumS (by rfl) T.m_enumerate (pa_cons (pv 0) pa_nil)) (pg_tup (by rfl) (pgs_cons (pg_name (i := 1) sc_scan.nd rfl (.inl rfl)) (pgs_cons (pg_name (i := 2) sc_scan.nd rfl (.inl rfl)) pgs_nil))) (pss_one (ps_if (pt_not (PW.pt (pw_or (pt_chain MT.op_leS MT.op_leS (MT.pe_strS (l := [32]) (by decide +kernel)) (pv 2) (MT.pe_strS (l := [126]) (by decide +kernel))) (pw_or1 (pt_cmpR op_eq (pv 2) (MT.pe_strS (l := [10]) (by decide +kernel)) (nomark _)))))) (pss_one (L2N.ps_raise rfl (L2N.takes_of rfl rfl rfl rfl) (X2.pmkN T.xo_BadText.ox T.xo_BadText.ii T.xo_BadText.ti G_BadText_init (hr.mono (by decide)) T.b_BadText_init pass0 (by rfl) T.c_BadText (pa_cons (pv 1) pa_nil)))) pss_nil)))
 (pss_cons (ps_set (i := 3) sc_scan.nd rfl (.inl rfl) (pe_lst pa_nil))
 (pss_cons (ps_set (i := 4) sc_scan.nd rfl (.inl rfl) pe_int)
 (pss_cons (ps_for (passes_of rfl) rfl (pi_enumS (by rfl) T.m_enumerate (pa_cons (pe_op MT.op_addS (pv 0) (MT.pe_strS (l := [32]) (by decide +kernel))) pa_nil)) (pg_tup (by rfl) (pgs_cons (pg_name (i := 1) sc_scan.nd rfl (.inl rfl)) (pgs_cons (pg_name (i := 2) sc_scan.nd rfl (.inl rfl)) pgs_nil))) (pss_one (ps_if (pt_cmpR MT.op_inS (pv 2) (MT.pe_strS (l := [32, 10, 40, 41]) (by decide +kernel)) rfl) (pss_cons (ps_if (pt_cmpR op_lt (pv 4) (pv 1) (nomark _)) (pss_one (ps_expr (pe_bm PySem.F.plainAttrs_list PySem.F.slot_list_append PySem.F.type_list_append mt_append (pv 3) (pa_cons (pe_tup (pa_cons (pe_slice sl_str (pv 0) (po_some (pv 4)) (po_some (pv 1))) (pa_cons (pv 4) pa_nil))) pa_nil)))) pss_nil)
 (pss_cons (ps_if (pt_cmpR MT.op_inS (pv 2) (MT.pe_strS (l := [40, 41]) (by decide +kernel)) rfl) (pss_one (ps_expr (pe_bm PySem.F.plainAttrs_list PySem.F.slot_list_append PySem.F.type_list_append mt_append (pv 3) (pa_cons (pe_tup (pa_cons (pv 2) (pa_cons (pv 1) pa_nil))) pa_nil)))) pss_nil)
 (pss_one (ps_set (i := 4) sc_scan.nd rfl (.inl rfl) (pe_op op_add (pv 1) pe_int))))) pss_nil)))
 (pss_one (ps_ret (pv 3))))))), ?_⟩
    refine Z.w_start (σ' := [some (.str (S l)), none, none, none, none]) rfl ?_
    walk_at "w"
    refine for_it walk_enumL (fun i σ H' => (l.take i).all MS.okc = true ∧ Same H H' ∧ ∃ u v, σ = [some (.str (S l)), u, v, none, none]) ?_ (fun _ _ _ _ _ => trivial) ?_ ?_
    · exact ⟨rfl, Same.refl H, _, _, rfl⟩
    · rintro i x σ H' H2 hi ⟨ha, sm, u, v, rfl⟩ ⟨T1, c, rfl, hT, rfl, hc⟩
      have sm2 := fun o => same_of (o := o) sm hT
      have ht : (l.take (i + 1)).all MS.okc = ((l.take i).all MS.okc && MS.okc c) := by rw [MS.take_snoc hc, List.all_append]; simp
      have hlen : (l.take i).length = i := by rw [List.length_take]; omega
      have hsp : l = l.take i ++ c :: l.drop (i + 1) := by rw [← MS.drop_cons hc, List.take_append_drop]
      walk_at "w"
      have good : MS.okc c = true → (l.take (i + 1)).all MS.okc = true := fun z => by rw [ht, ha, z]; rfl
      have bad : ∀ (o : HO) d, MS.okc c = false → (upd H' T1 o) d = none → E (.ref T.C_BadText) (some d) (upd (upd H' T1 o) d (.xd [("place", .int (i : Nat))])) := fun o d z hd =>
        h2 _ c _ hsp ha z d _ (same_of (sm2 _) hd) (by rw [hlen]; exact upd_same)
      have big : ((i : Nat) : Int).natAbs < 10 ^ 60 := by omega
      by_cases h32 : 32 ≤ c
      · walk_at "w"
        by_cases h126 : c ≤ 126
        · walk_at "w"
          exact ⟨good (by simp [MS.okc, h32, h126]), sm2 _, _, _, rfl⟩
        · walk_at "w"
          rw [decide_eq_false (show ¬ [c] = [10] by simp; omega)]
          walk_at "w"
          refine w_mkO ?_
          walk_at "w"
          exact use_mk (use_badtext big) fun d hd => bad _ d (by simp [MS.okc, h126]; omega) hd
      · walk_at "w"
        by_cases h10 : c = 10
        · subst h10
          walk_at "w"
          exact ⟨good (by decide), sm2 _, _, _, rfl⟩
        · rw [decide_eq_false (show ¬ [c] = [10] by simpa using h10)]
          walk_at "w"
          refine w_mkO ?_
          walk_at "w"
          exact use_mk (use_badtext big) fun d hd => bad _ d (by simp [MS.okc, h32, h10]) hd
    · rintro σ H' ⟨ha, sm, u, v, rfl⟩
      rw [List.take_length] at ha
      walk_at "w"
      rename_i p hp
      have hp0 : H p = none := none_same sm hp
      have hl1 : (l ++ [32]).length = l.length + 1 := by simp
      refine for_it walk_enumL (fun i σ H2 => ∃ (s : Nat) (u v : Option V) (ps : List V) (acc : MS.PW), σ = [some (.str (S l)), u, v, some (.ref p), some (.int (s : Nat))] ∧ Same H H2 ∧ H2 p = some (.lst ps) ∧ Toks H2 ps acc ∧ MS.Post l i s acc) ?_ (fun _ _ _ _ _ => trivial) ?_ ?_
      · exact ⟨0, u, v, [], [], rfl, same_of sm hp, upd_same, .nil, .inl ⟨Nat.zero_le _, .zero l⟩⟩
      · rintro i x σ H2 H3 hi ⟨s, u2, v2, ps, acc, rfl, sm2, hps, tk, po⟩ ⟨T1, c, rfl, hT, rfl, hc⟩
        rcases po with ⟨hi2, fw⟩ | ⟨hi2, _⟩
        · have hsi := fw.1
          have ln : ps.length = acc.length := PySem.Paired.length tk
          have la := MS.acc_size fw
          have hps2 : ps.length ≤ 4001 := by omega
          have sm3 := fun o => same_of (o := o) sm2 hT
          have tk3 := fun o => tk.mono ((TM.refl H2).new (o := o) hT)
          have hp3 : ∀ o, (upd H2 T1 o) p = some (.lst ps) := fun o => upd_of hT hps
          walk_at "w"
          by_cases hs : c ∈ [32, 10, 40, 41]
          · have po := MS.post_sep fw hc (decide_eq_true hs)
            rw [decide_eq_true hs]
            walk_at "w"
            by_cases hlt : s < i
            · rw [MS.cut_ne hlt hi2] at po
              walk_at "w"
              rename_i q hq
              have t1 := (tk3 _).put (w := (l.take i).drop s) (i := s) (hp3 _) hq
              by_cases hpc : c ∈ [40, 41]
              · rw [MS.pr_yes (decide_eq_true hpc)] at po
                rw [decide_eq_true hpc]
                walk_at "w"
                rename_i q2 hq2
                exact ⟨i + 1, _, _, _, _, rfl, by walk_at "same", upd_same, t1.put (w := [c]) (i := i) upd_same hq2, po⟩
              · rw [MS.pr_no (decide_eq_false hpc), List.append_nil] at po
                rw [decide_eq_false hpc]
                walk_at "w"
                exact ⟨i + 1, _, _, _, _, rfl, by walk_at "same", upd_same, t1, po⟩
            · rw [MS.cut_eq hlt, List.append_nil] at po
              walk_at "w"
              by_cases hpc : c ∈ [40, 41]
              · rw [MS.pr_yes (decide_eq_true hpc)] at po
                rw [decide_eq_true hpc]
                walk_at "w"
                rename_i q2 hq2
                exact ⟨i + 1, _, _, _, _, rfl, by walk_at "same", upd_same, (tk3 _).put (w := [c]) (i := i) (hp3 _) hq2, po⟩
              · rw [MS.pr_no (decide_eq_false hpc), List.append_nil] at po
                rw [decide_eq_false hpc]
                walk_at "w"
                exact ⟨i + 1, _, _, _, _, rfl, sm3 _, hp3 _, tk3 _, po⟩
          · have po := MS.post_word fw hc (decide_eq_false hs)
            rw [decide_eq_false hs]
            walk_at "w"
            exact ⟨s, _, _, _, _, rfl, sm3 _, hp3 _, tk3 _, po⟩
        · omega
      · rintro σ H2 ⟨s, u2, v2, ps, acc, rfl, sm2, hps, tk, po⟩
        rcases po with ⟨hi2, _⟩ | ⟨hi2, rfl⟩
        · omega
        · walk_at "w"
          exact h1 ha p ps H2 sm2 hp0 hps tk
end
end L

namespace MT
open PySem PySem.Spec PyProof.Rows L2
open _root_.SX (S S_len S_cat)
theorem paired_rev {α β : Type} {F : α → β → Prop} : ∀ {xs : List α} {ys : List β}, PySem.Paired F xs ys → PySem.Paired F xs.reverse ys.reverse
  | _, _, .nil => .nil
  | _, _, .cons h t => by
    rw [List.reverse_cons, List.reverse_cons]
    exact (paired_rev t).snoc h
theorem paired_get {α β : Type} {F : α → β → Prop} : ∀ {xs : List α} {ys : List β} {k : Nat} {y : β}, PySem.Paired F xs ys → ys[k]? = some y → ∃ x, xs[k]? = some x ∧ F x y
  | _, _, k, y, .nil, h => by simp at h
  | _, _, 0, y, .cons h t, e => by
    simp only [List.getElem?_cons_zero, Option.some.injEq] at e
    subst e
    exact ⟨_, rfl, h⟩
  | _, _, k + 1, y, .cons h t, e => by
    rw [List.getElem?_cons_succ] at e
    obtain ⟨x, h1, h2⟩ := paired_get t e
    exact ⟨x, by rw [List.getElem?_cons_succ]; exact h1, h2⟩
theorem Toks.get {H : Hp} {vs : List V} {ws : MS.PW} {k : Nat} (t : Toks H vs ws) (h : k < vs.length) : ∃ p w, ws[k]? = some w ∧ atI vs (0 + (k : Nat)) = some (.ref p) ∧ H p = some (.tup [.str (S w.1), .int (w.2 : Nat)]) := by
  have hl : vs.length = ws.length := PySem.Paired.length t
  have e := List.getElem?_eq_getElem (show k < ws.length by omega)
  obtain ⟨x, h1, p, rfl, h2⟩ := paired_get t e
  refine ⟨p, _, e, ?_, h2⟩
  rw [show (0 : Int) + (k : Nat) = (k : Nat) by omega]
  exact atI_nat h1
theorem w_listRev {K : PySem.W.Frag} {te : TE} {σ : L2.St} {H : Hp} {Q : VK} (h : te σ H fun v H1 => ∃ (a : Addr) (xs : List V), v = .ref a ∧ SqL K H1 a xs ∧ ∀ q, H1 q = none → Q (.ref q) (upd H1 q (.lst xs.reverse))) : LR.tListRev K te σ H Q := h
theorem eqv_refl1 (a : Str) (b : Int) : PyData.eqv (.tuple [.str a, .int b]) (.tuple [.str a, .int b]) = true := by simp [PyData.eqv, PyData.eqvAll]
theorem shp {l : List Nat} {b : Int} (h : l.all (fun c => decide (c < 1114112)) = true) : SeqAt.shaped (.tuple [.str (S l), .int b]) = true := by
  have k : PyData.strOk (S l) = true := by
    unfold PyData.strOk
    simpa [S] using h
  unfold SeqAt.shaped
  simp [PyData.canLay0, PyData.canLayAll0, PyData.depth, PyData.depthAll, k]
theorem ne_tok {K : PySem.W.Frag} {x y : Addr} {l : List Nat} {b : Int} {H : Hp} {Q : VK} (h : l.all (fun c => decide (c < 1114112)) = true) (hx : H x = some (.tup [.str (S l), .int b])) (hy : H y = some (.tup [.str (S l), .int b])) (q : Q (.bl false) H) : rNeD K (.ref x) (.ref y) H Q :=
  ⟨.tuple [.str (S l), .int b], .tuple [.str (S l), .int b], .tup (SqT.of hx) (.cons (.str _) (.cons (.int _) .nil)), .tup (SqT.of hy) (.cons (.str _) (.cons (.int _) .nil)), shp h, shp h, by
    rw [eqv_refl1]
    exact q⟩
theorem set_first {xs : List V} {v x : V} {p : Addr} {H : Hp} {R : Hp → Prop} (h : H p = some (.lst (xs ++ [x]))) (q : ∀ ys, R (upd H p (.lst ys))) : rSetL (.ref p) (.int 0) v H R := by
  refine ⟨p, xs ++ [x], 0, 0, rfl, rfl, h, ?_, q _⟩
  have : 0 < (xs ++ [x]).length := by simp
  exact Evl.ixN_nat (j := 0) this
theorem wd_mem {w : List Nat} {s : Nat} {p : List Nat × Nat} (h : p ∈ MS.wd w s) : p.1 = w := by
  unfold MS.wd at h
  split at h
  · cases h
  · rw [List.mem_singleton.mp h]
theorem pr_mem {c s : Nat} {p : List Nat × Nat} (h : p ∈ MS.pr c s) : p.1 = [c] := by
  unfold MS.pr at h
  split at h
  · rw [List.mem_singleton.mp h]
  · cases h
theorem tk_mem : ∀ (l : List Nat) (i : Nat), (∀ c ∈ (MS.tk i l).1, c ∈ l) ∧ ∀ p ∈ (MS.tk i l).2, ∀ c ∈ p.1, c ∈ l
  | [], _ => ⟨(fun _ h => nomatch h), (fun _ h => nomatch h)⟩
  | d :: r, i => by
    obtain ⟨h1, h2⟩ := tk_mem r (i + 1)
    by_cases h : MS.sepc d = true
    · rw [MS.tk_sep h]
      refine ⟨(fun c k => by cases k), fun p hp c hc => ?_⟩
      rcases List.mem_append.mp hp with k | k
      · rw [pr_mem k] at hc
        rw [List.mem_singleton.mp hc]
        exact List.mem_cons_self
      · rcases List.mem_append.mp k with k | k
        · rw [wd_mem k] at hc
          exact List.mem_cons_of_mem _ (h1 c hc)
        · exact List.mem_cons_of_mem _ (h2 p k c hc)
    · rw [MS.tk_no (Bool.eq_false_iff.mpr h)]
      refine ⟨fun c k => ?_, fun p hp c hc => List.mem_cons_of_mem _ (h2 p hp c hc)⟩
      rcases List.mem_cons.mp k with k | k
      · rw [k]; exact List.mem_cons_self
      · exact List.mem_cons_of_mem _ (h1 c k)
theorem all_mem {l : List Nat} {p : List Nat × Nat} (h : p ∈ MS.all l) {c : Nat} (hc : c ∈ p.1) : c ∈ l := by
  rcases List.mem_append.mp h with k | k
  · rw [wd_mem k] at hc
    exact (tk_mem l 0).1 c hc
  · exact (tk_mem l 0).2 p k c hc
theorem all_cps {l : List Nat} {p : List Nat × Nat} (ha : l.all MS.okc = true) (h : p ∈ MS.all l) : p.1.all (fun c => decide (c < 1114112)) = true := List.all_eq_true.mpr fun c hc => by
  have k := List.all_eq_true.mp ha c (all_mem h hc)
  refine decide_eq_true ?_
  unfold MS.okc at k
  simp only [Bool.or_eq_true, Bool.and_eq_true, decide_eq_true_eq] at k
  omega
end MT

local macro_rules | `(tactic| walk_at "w1") => `(tactic| first
  | with_reducible refine MT.w_listRev ?_
  | fail "w1")

namespace L
open PySem PySem.Spec PyProof.Rows L2 Z MT X2
open _root_.SX (S S_len S_cat S_inj)
section
variable {P : Program} {w : World} {K : PySem.W.Frag} {mg : Str → Option Value} {base : Heap}
def spDue : Sp := fun vs H Q _ => ∃ l : List Nat, vs = [.str (S l)] ∧ l.length ≤ 2000 ∧ ∀ (p : Addr) (ps : List V) H', Same H H' → H p = none → H' p = some (.lst ps) → Toks H' ps (MS.all l) → Q (.ref p) H'
theorem ok_due (T : Txt K mg) : FnOk P w K mg base CX0 1 T.f_due T.fd_due ["_law_text"] spDue := by
  refine T.F_due.ok sc_due (fun vs H Q E h => ?_) (fun cdv A outer s H vs Q E hr h => ?_)
  · obtain ⟨l, rfl, _⟩ := h
    rfl
  · obtain ⟨l, rfl, hl, h⟩ := h
    refine ⟨_, (pss_cons (ps_set (i := 1) sc_due.nd rfl (.inl rfl) (pe_lst pa_nil))
 (pss_cons (ps_set (i := 2) sc_due.nd rfl (.inl rfl) (MT.pe_strS (l := []) (by decide +kernel)))
 (pss_cons (ps_for PassesOwn.never rfl (pi_range1 (by rfl) T.m_range (pa_cons (pe_callB MT.call_lenS (by rfl) T.m_len (by decide +kernel) (pa_cons (pv 0) pa_nil)) pa_nil)) (pg_name (i := 3) sc_due.nd rfl (.inl rfl)) (pss_cons (ps_set (i := 4) sc_due.nd rfl (.inl rfl) (pe_op op_sub (pe_op op_sub (pe_callB MT.call_lenS (by rfl) T.m_len (by decide +kernel) (pa_cons (pv 0) pa_nil)) pe_int) (pv 3)))
 (pss_cons (ps_set (i := 5) sc_due.nd rfl (.inl rfl) (pe_ix ix_str (pv 0) (pv 4) (fun _ _ => rfl)))
 (pss_one (ps_if (pt_cmpR MT.op_inS (pv 5) (MT.pe_strS (l := [32, 10, 40, 41]) (by decide +kernel)) rfl) (pss_cons (ps_if (pt_cmpR op_ne (pv 2) (MT.pe_strS (l := []) (by decide +kernel)) (nomark _)) (pss_one (ps_expr (pe_bm PySem.F.plainAttrs_list PySem.F.slot_list_append PySem.F.type_list_append mt_append (pv 1) (pa_cons (pe_tup (pa_cons (pv 2) (pa_cons (pe_op op_add (pv 4) pe_int) pa_nil))) pa_nil)))) pss_nil)
 (pss_cons (ps_if (pt_cmpR MT.op_inS (pv 5) (MT.pe_strS (l := [40, 41]) (by decide +kernel)) rfl) (pss_one (ps_expr (pe_bm PySem.F.plainAttrs_list PySem.F.slot_list_append PySem.F.type_list_append mt_append (pv 1) (pa_cons (pe_tup (pa_cons (pv 5) (pa_cons (pv 4) pa_nil))) pa_nil)))) pss_nil)
 (pss_one (ps_set (i := 2) sc_due.nd rfl (.inl rfl) (MT.pe_strS (l := []) (by decide +kernel)))))) (pss_one (ps_set (i := 2) sc_due.nd rfl (.inl rfl) (pe_op MT.op_addS (pv 5) (pv 2)))))))))
 (pss_cons (ps_if (pt_cmpR op_ne (pv 2) (MT.pe_strS (l := []) (by decide +kernel)) (nomark _)) (pss_one (ps_expr (pe_bm PySem.F.plainAttrs_list PySem.F.slot_list_append PySem.F.type_list_append mt_append (pv 1) (pa_cons (pe_tup (pa_cons (pv 2) (pa_cons pe_int pa_nil))) pa_nil)))) pss_nil)
 (pss_one (ps_ret (LR.pe_listRev (by rfl) (by rfl) T.m_list (by rfl) T.m_reversed (pv 1)))))))), ?_⟩
    refine Z.w_start (σ' := [some (.str (S l)), none, none, none, none, none]) rfl ?_
    walk_at "w"
    rename_i p hp
    refine ⟨by omega, by omega, ?_⟩
    refine for_range (lo := 0) (n := _) (fun i σ H2 => ∃ (x3 x4 x5 : Option V) (ps : List V) (j : Nat), j + i = l.length ∧ σ = [some (.str (S l)), some (.ref p), some (.str (S (MS.tk j (l.drop j)).1)), x3, x4, x5] ∧ Same H H2 ∧ H2 p = some (.lst ps) ∧ Toks H2 ps (MS.tk j (l.drop j)).2.reverse) ?_ ?_ ?_
    · refine ⟨none, none, none, [], l.length, rfl, ?_, same_of (Same.refl H) hp, upd_same, ?_⟩
      · rw [List.drop_length]
        rfl
      · rw [List.drop_length]
        exact .nil
    · rintro i σ H2 hi ⟨x3, x4, x5, ps, j1, hj, rfl, sm, hps, tk⟩
      obtain ⟨j, rfl⟩ : ∃ j, j1 = j + 1 := ⟨j1 - 1, by omega⟩
      have e : ((l.length : Nat) : Int) - 1 - (0 + (i : Nat)) = ((j : Nat) : Int) := by omega
      obtain ⟨c, hc⟩ : ∃ c, l[j]? = some c := ⟨_, List.getElem?_eq_getElem (show j < l.length by omega)⟩
      have hat : atI l (((l.length : Nat) : Int) - 1 - (0 + (i : Nat))) = some c := by rw [e]; exact atI_nat hc
      have wl := MS.tk_len (l.drop (j + 1)) (j + 1)
      rw [List.length_drop] at wl
      have wl2 : (MS.tk (j + 1) (l.drop (j + 1))).1.length ≤ 2000 := by omega
      have ts := MS.tk_size (l.drop (j + 1)) (j + 1)
      rw [List.length_drop] at ts
      have ln : ps.length = (MS.tk (j + 1) (l.drop (j + 1))).2.reverse.length := PySem.Paired.length tk
      rw [List.length_reverse] at ln
      have hps2 : ps.length ≤ 4001 := by omega
      have ed := MS.drop_cons hc
      walk_at "w"
      rw [e]
      by_cases hs : c ∈ [32, 10, 40, 41]
      · rw [decide_eq_true hs]
        have et := MS.tk_sep (i := j) (r := l.drop (j + 1)) (show MS.sepc c = true from decide_eq_true hs)
        rw [← ed] at et
        have e1 : (MS.tk j (l.drop j)).1 = [] := by rw [et]
        have e2 : (MS.tk j (l.drop j)).2 = MS.pr c j ++ (MS.wd (MS.tk (j + 1) (l.drop (j + 1))).1 (j + 1) ++ (MS.tk (j + 1) (l.drop (j + 1))).2) := by rw [et]
        generalize (MS.tk (j + 1) (l.drop (j + 1))).1 = wo at *
        generalize (MS.tk (j + 1) (l.drop (j + 1))).2 = X at *
        walk_at "w"
        by_cases hw : wo = []
        · rw [decide_eq_true hw]
          subst hw
          rw [MS.wd_nil, List.nil_append] at e2
          walk_at "w"
          by_cases hpc : c ∈ [40, 41]
          · rw [decide_eq_true hpc]
            rw [MS.pr_yes (decide_eq_true hpc)] at e2
            walk_at "w"
            rename_i q2 hq2
            refine ⟨_, _, _, _, j, by omega, by rw [e1], by walk_at "same", upd_same, ?_⟩
            rw [e2, List.singleton_append, List.reverse_cons]
            exact tk.put (w := [c]) (i := j) hps hq2
          · rw [decide_eq_false hpc]
            rw [MS.pr_no (decide_eq_false hpc), List.nil_append] at e2
            walk_at "w"
            exact ⟨_, _, _, _, j, by omega, by rw [e1], sm, hps, by rw [e2]; exact tk⟩
        · rw [decide_eq_false hw]
          rw [show MS.wd wo (j + 1) = [(wo, j + 1)] by unfold MS.wd; rw [if_neg hw]] at e2
          walk_at "w"
          rename_i q hq
          have t1 := tk.put (w := wo) (i := j + 1) hps hq
          by_cases hpc : c ∈ [40, 41]
          · rw [decide_eq_true hpc]
            rw [MS.pr_yes (decide_eq_true hpc)] at e2
            walk_at "w"
            rename_i q2 hq2
            refine ⟨_, _, _, _, j, by omega, by rw [e1], by walk_at "same", upd_same, ?_⟩
            rw [e2, List.singleton_append, List.reverse_cons, List.singleton_append, List.reverse_cons]
            exact t1.put (w := [c]) (i := j) upd_same hq2
          · rw [decide_eq_false hpc]
            rw [MS.pr_no (decide_eq_false hpc), List.nil_append] at e2
            walk_at "w"
            refine ⟨_, _, _, _, j, by omega, by rw [e1], by walk_at "same", upd_same, ?_⟩
            rw [e2, List.singleton_append, List.reverse_cons]
            exact t1
      · rw [decide_eq_false hs]
        have et := MS.tk_no (i := j) (r := l.drop (j + 1)) (show MS.sepc c = false from decide_eq_false hs)
        rw [← ed] at et
        have e1 : (MS.tk j (l.drop j)).1 = [c] ++ (MS.tk (j + 1) (l.drop (j + 1))).1 := by rw [et]; rfl
        walk_at "w"
        exact ⟨_, _, _, _, j, by omega, by rw [e1], sm, hps, by rw [et]; exact tk⟩
    · rintro σ H2 ⟨x3, x4, x5, ps, j, hj, rfl, sm, hps, tk⟩
      have hj0 : j = 0 := by omega
      subst hj0
      rw [List.drop_zero] at *
      have wl2 := MS.tk_len l 0
      have ts := MS.tk_size l 0
      have ln : ps.length = (MS.tk 0 l).2.reverse.length := PySem.Paired.length tk
      rw [List.length_reverse] at ln
      have hps2 : ps.length ≤ 4001 := by omega
      have ea : MS.all l = MS.wd (MS.tk 0 l).1 0 ++ (MS.tk 0 l).2 := rfl
      generalize (MS.tk 0 l).1 = wo at *
      generalize (MS.tk 0 l).2 = X at *
      walk_at "w"
      by_cases hw : wo = []
      · rw [decide_eq_true hw]
        subst hw
        rw [MS.wd_nil, List.nil_append] at ea
        walk_at "w"
        refine ⟨p, ps, rfl, .inl (.inl hps), fun q hq => h q _ _ (same_of sm hq) (none_same sm hq) upd_same ?_⟩
        rw [show MS.all l = X.reverse.reverse by rw [ea]; simp]
        exact paired_rev (tk.mono ((TM.refl H2).new hq))
      · rw [decide_eq_false hw]
        rw [show MS.wd wo 0 = [(wo, 0)] by unfold MS.wd; rw [if_neg hw]] at ea
        walk_at "w"
        rename_i q1 hq1
        have t1 := tk.put (w := wo) (i := 0) hps hq1
        have s1 : Same H (upd (upd H2 q1 (.tup [.str (S wo), .int (0 : Nat)])) p (.lst (ps ++ [.ref q1]))) := same_mut (same_of sm hq1) hp
        refine ⟨p, _, rfl, .inl (.inl upd_same), fun q hq => h q _ _ (same_of s1 hq) (none_same s1 hq) upd_same ?_⟩
        rw [show MS.all l = (X.reverse ++ [(wo, 0)]).reverse by rw [ea]; simp]
        exact paired_rev (t1.mono ((TM.refl _).new hq))
theorem use_due {l : List Nat} {H : Hp} {Q : VK} {E : XK} (hl : l.length ≤ 2000) (h : ∀ (p : Addr) (ps : List V) H', Same H H' → H p = none → H' p = some (.lst ps) → Toks H' ps (MS.all l) → Q (.ref p) H') : spDue [.str (S l)] H Q E := ⟨l, rfl, hl, h⟩
theorem use_scan {C : Addr} {l : List Nat} {H : Hp} {Q : VK} {E : XK} (hl : l.length ≤ 2000) (h1 : l.all MS.okc = true → ∀ (p : Addr) (ps : List V) H', Same H H' → H p = none → H' p = some (.lst ps) → Toks H' ps (MS.all l) → Q (.ref p) H')
    (h2 : ∀ (a : List Nat) (c : Nat) (b : List Nat), l = a ++ c :: b → a.all MS.okc = true → MS.okc c = false → ∀ d H', Same H H' → H' d = some (.xd [("place", .int (a.length : Nat))]) → E (.ref C) (some d) H') : spScan C [.str (S l)] H Q E := ⟨l, rfl, hl, h1, h2⟩
end
end L

namespace L
open PySem PySem.Spec PyProof.Rows L2 Z MT X2
open _root_.SX (S S_len S_cat S_inj)
section
variable {P : Program} {w : World} {K : PySem.W.Frag} {mg : Str → Option Value} {base : Heap}
def spSplit : Sp := fun vs H Q _ => ∃ l : List Nat, vs = [.str (S l)] ∧ l.length ≤ 2000 ∧ l.all MS.okc = true ∧ ∀ H', Same H H' → Q (.bl true) H'
theorem ok_split (T : Txt K mg) : FnOk P w K mg base CX0 4 T.f_split T.fd_split ["_law_text"] spSplit := by
  have G_due := ok_due (P := P) (w := w) (base := base) T
  have G_scan := ok_scan (P := P) (w := w) (base := base) T
  have G_whole := ok_whole (P := P) (w := w) (base := base) T
  refine T.F_split.ok sc_split (fun vs H Q E h => ?_) (fun cdv A outer s H vs Q E hr h => ?_)
  · obtain ⟨l, rfl, _⟩ := h
    rfl
  · obtain ⟨l, rfl, hl, ha, h⟩ := h
    refine ⟨_, (pss_cons (ps_set (i := 1) sc_split.nd rfl (.inl rfl) (pe_call G_due (hr.mono (by decide)) (by rfl) T.g_due T.F_due.kp T.b_due .nil pass0 (pa_cons (pv 0) pa_nil)))
 (pss_cons (ps_for PassesOwn.never rfl (pi_range1 (by rfl) T.m_range (pa_cons pe_int pa_nil)) (pg_name (i := 2) sc_split.nd rfl (.inl rfl)) (pss_cons (ps_set (i := 3) sc_split.nd rfl (.inl rfl) (pe_call G_scan (hr.mono (by decide)) (by rfl) T.g_scan T.F_scan.kp T.b_scan .nil X2.passN (pa_cons (pv 0) pa_nil)))
 (pss_cons (ps_if (PW.pt (pw_or (pt_not (pt_val (pe_callB call_isi (by rfl) T.m_isinstance (by decide +kernel) (pa_cons (pv 3) (pa_cons (pe_bltn (v := .ty "list") (by rfl) T.m_list (by decide +kernel) rfl) pa_nil))))) (pw_or1 (pt_cmpR op_ne (pe_callB call_len_seq (by rfl) T.m_len (by decide +kernel) (pa_cons (pv 3) pa_nil)) (pe_callB call_len_seq (by rfl) T.m_len (by decide +kernel) (pa_cons (pv 1) pa_nil)) (nomark _))))) (pss_one (ps_ret pe_bl)) pss_nil)
 (pss_cons (ps_for PassesOwn.never rfl (pi_range1 (by rfl) T.m_range (pa_cons (pe_callB call_len_seq (by rfl) T.m_len (by decide +kernel) (pa_cons (pv 1) pa_nil)) pa_nil)) (pg_name (i := 4) sc_split.nd rfl (.inl rfl)) (pss_cons (ps_if (PW.pt (pw_or (pt_not (pt_val (pe_callB call_isi (by rfl) T.m_isinstance (by decide +kernel) (pa_cons (pe_ix ix_list (pv 3) (pv 4) (fun _ _ => rfl)) (pa_cons (pe_bltn (v := .ty "tuple") (by rfl) T.m_tuple (by decide +kernel) rfl) pa_nil))))) (pw_or1 (pt_cmpR op_ne (pe_callB call_len_seq (by rfl) T.m_len (by decide +kernel) (pa_cons (pe_ix ix_list (pv 3) (pv 4) (fun _ _ => rfl)) pa_nil)) pe_int (nomark _))))) (pss_one (ps_ret pe_bl)) pss_nil)
 (pss_one (ps_if (PW.pt (pw_or (pt_not (pt_val (pe_callB call_isi (by rfl) T.m_isinstance (by decide +kernel) (pa_cons (pe_ix ix_tup (pe_ix ix_list (pv 3) (pv 4) (fun _ _ => rfl)) pe_int (fun _ _ => rfl)) (pa_cons (pe_bltn (v := .ty "str") (by rfl) T.m_str (by decide +kernel) rfl) pa_nil))))) (pw_or (pt_not (pt_val (pe_call G_whole (hr.mono (by decide)) (by rfl) T.g_whole T.F_whole.kp T.b_whole .nil pass0 (pa_cons (pe_ix ix_tup (pe_ix ix_list (pv 3) (pv 4) (fun _ _ => rfl)) pe_int (fun _ _ => rfl)) pa_nil)))) (pw_or1 (pt_cmpR (op_neD hr.units) (pe_ix ix_list (pv 3) (pv 4) (fun _ _ => rfl)) (pe_ix ix_list (pv 1) (pv 4) (fun _ _ => rfl)) (nomark _)))))) (pss_one (ps_ret pe_bl)) pss_nil))))
 (pss_cons (ps_expr (pe_bm PySem.F.plainAttrs_list PySem.F.slot_list_append PySem.F.type_list_append mt_append (pv 3) (pa_cons (pe_tup (pa_cons (MT.pe_strS (l := [97]) (by decide +kernel)) (pa_cons pe_int pa_nil))) pa_nil)))
 (pss_one (ps_asg (pe_tup (pa_cons (MT.pe_strS (l := [98]) (by decide +kernel)) (pa_cons pe_int pa_nil))) (pg_sub (pv 3) pe_int set_list))))))))
 (pss_one (ps_ret pe_bl)))), ?_⟩
    refine Z.w_start (σ' := [some (.str (S l)), none, none, none, none]) rfl ?_
    walk_at "w"
    refine use_due hl fun p ps H1 s1 hp0 hp tk => ?_
    walk_at "w"
    refine ⟨by omega, by omega, ?_⟩
    refine for_range (lo := 0) (n := _) (fun i σ H2 => Same H1 H2 ∧ ∃ (x2 x3 x4 : Option V), σ = [some (.str (S l)), some (.ref p), x2, x3, x4]) ?_ ?_ ?_
    · exact ⟨Same.refl _, _, _, _, rfl⟩
    · rintro i σ H2 hi ⟨s2, x2, x3, x4, rfl⟩
      walk_at "w"
      refine use_scan hl (fun _ q qs H3 s3 hq0 hq tq => ?_) (fun a c b e _ hb => ?_)
      · have e1 : qs.length = (MS.all l).length := PySem.Paired.length tq
        have e2 : ps.length = (MS.all l).length := PySem.Paired.length tk
        have as := MS.all_size l
        have hp3 : H3 p = some (.lst ps) := s3 _ _ (s2 _ _ hp)
        have tk3 := tk.mono (TM.of (s2.trans s3))
        have hq1 : H1 q = none := none_same s2 hq0
        have eq : ((qs.length : Nat) : Int) = ((ps.length : Nat) : Int) := by omega
        walk_at "w"
        refine ⟨by omega, by omega, ?_⟩
        refine for_range (lo := 0) (n := _) (fun k σ H4 => H4 = H3 ∧ ∃ (x4 : Option V), σ = [some (.str (S l)), some (.ref p), some (.int (0 + (i : Nat))), some (.ref q), x4]) ?_ ?_ ?_
        · exact ⟨rfl, _, rfl⟩
        · rintro k σ H4 hk ⟨rfl, x4, rfl⟩
          have hk2 : k < ps.length := by simpa using hk
          obtain ⟨pa, wa, g1, g2, g3⟩ := tk3.get hk2
          obtain ⟨qa, wb, f1, f2, f3⟩ := tq.get (show k < qs.length by omega)
          have ew : wa = wb := Option.some.inj (g1.symm.trans f1)
          subst ew
          have cps := all_cps ha (List.mem_of_getElem? g1)
          walk_at "w"
          refine ne_tok cps f3 g3 ?_
          walk_at "w"
          exact ⟨_, rfl⟩
        · rintro σ H4 ⟨rfl, x4, rfl⟩
          walk_at "w"
          rename_i t0 ht0 t1 ht1
          have s4 := s2.trans s3
          refine set_first (upd_of ht1 upd_same) fun ys => ?_
          exact ⟨same_mut (same_of (same_mut (same_of s4 ht0) hq1) ht1) hq1, _, _, _, rfl⟩
      · have := List.all_eq_true.mp ha c (by rw [e]; simp)
        rw [hb] at this
        cases this
    · rintro σ H2 ⟨s2, x2, x3, x4, rfl⟩
      walk_at "w"
      exact h _ (s1.trans s2)
theorem use_split {l : List Nat} {H : Hp} {Q : VK} {E : XK} (hl : l.length ≤ 2000) (ha : l.all MS.okc = true) (h : ∀ H', Same H H' → Q (.bl true) H') : spSplit [.str (S l)] H Q E := ⟨l, rfl, hl, ha, h⟩
end
end L

namespace L
open PySem PySem.Spec PyProof.Rows L2 Z MT X2
open _root_.SX (S S_len S_cat S_inj)
section
variable {P : Program} {w : World} {K : PySem.W.Frag} {mg : Str → Option Value} {base : Heap}
/-- signs of a drawn text: those that may stand, and the tab -/
def okt (c : Nat) : Bool := MS.okc c || decide (c = 9)
def spMenu : Sp := fun vs H Q _ => ∃ k : Int, vs = [.int k] ∧ ∀ l : List Nat, l.all MS.okc = true → l ≠ [] → l.length ≤ 200 → Q (.str (S l)) H
theorem ok_menu (T : Txt K mg) : FnOk P w K mg base CX0 1 T.f_menu T.fd_menu ["_law_way"] spMenu := by
  refine T.F_menu.ok sc_menu (fun vs H Q E h => ?_) (fun cdv A outer s H vs Q E hr h => ?_)
  · obtain ⟨k, rfl, _⟩ := h
    rfl
  · obtain ⟨k, rfl, h⟩ := h
    refine ⟨_, (pss_cons (ps_set (i := 1) sc_menu.nd rfl (.inl rfl) (MT.pe_strS (l := lit_1) (by decide +kernel)))
 (pss_cons (ps_set (i := 2) sc_menu.nd rfl (.inl rfl) (MT.pe_strS (l := lit_2) (by decide +kernel)))
 (pss_cons (ps_if (pt_cmpR op_eq (pv 0) pe_int (nomark _)) (pss_one (ps_ret (pe_op MT.op_addS (pe_op MT.op_addS (pe_op MT.op_addS (pe_op MT.op_addS (pv 1) (pv 2)) (pe_op MT.op_mulS (MT.pe_strS (l := [40, 41]) (by decide +kernel)) pe_int)) (pe_op MT.op_mulS (MT.pe_strS (l := [32]) (by decide +kernel)) pe_int)) (pe_op MT.op_mulS (MT.pe_strS (l := [10]) (by decide +kernel)) pe_int)))) pss_nil)
 (pss_cons (ps_if (pt_cmpR op_eq (pv 0) pe_int (nomark _)) (pss_one (ps_ret (MT.pe_strS (l := [97, 40, 98, 41, 32, 10]) (by decide +kernel)))) pss_nil)
 (pss_cons (ps_if (pt_cmpR op_eq (pv 0) pe_int (nomark _)) (pss_one (ps_ret (MT.pe_strS (l := [32, 10]) (by decide +kernel)))) pss_nil)
 (pss_cons (ps_if (pt_cmpR op_eq (pv 0) pe_int (nomark _)) (pss_one (ps_ret (MT.pe_strS (l := [40, 41, 120]) (by decide +kernel)))) pss_nil)
 (pss_one (ps_ret (pe_op MT.op_addS (pv 1) (MT.pe_strS (l := [40, 41, 32, 10]) (by decide +kernel))))))))))), ?_⟩
    refine Z.w_start (σ' := [some (.int k), none, none]) rfl ?_
    walk_at "w"
    have m8 : ∀ {l : List Nat} {H : Hp} {Q : VK}, l.length ≤ 200 → Q (.str (S (reps 8 l))) H → rMulS (.str (S l)) (.int 8) H Q := fun hl q => w_mulS (m := 8) (by omega) rfl (by decide) (by decide) q
    have m6 : ∀ {l : List Nat} {H : Hp} {Q : VK}, l.length ≤ 200 → Q (.str (S (reps 6 l))) H → rMulS (.str (S l)) (.int 6) H Q := fun hl q => w_mulS (m := 6) (by omega) rfl (by decide) (by decide) q
    walk_at "wi"
    · walk_at "w"
      refine m8 (by decide) ?_
      walk_at "w"
      refine m8 (by decide) ?_
      walk_at "w"
      refine m6 (by decide) ?_
      walk_at "w"
      exact h _ (by decide +kernel) (by decide +kernel) (by decide +kernel)
    · walk_at "w"
      walk_at "wi"
      · walk_at "w"
        exact h _ (by decide) (by decide) (by decide)
      · walk_at "w"
        walk_at "wi"
        · walk_at "w"
          exact h _ (by decide) (by decide) (by decide)
        · walk_at "w"
          walk_at "wi"
          · walk_at "w"
            exact h _ (by decide) (by decide) (by decide)
          · walk_at "w"
            exact h _ (by decide +kernel) (by decide +kernel) (by decide +kernel)
theorem use_menu {k : Int} {H : Hp} {Q : VK} {E : XK} (h : ∀ l : List Nat, l.all MS.okc = true → l ≠ [] → l.length ≤ 200 → Q (.str (S l)) H) : spMenu [.int k] H Q E := ⟨k, rfl, h⟩
theorem join1 : ∀ cs : List Nat, TL.joinL [] (cs.map fun c => [c]) = cs
  | [] => rfl
  | [c] => rfl
  | c :: d :: r => by
    have ih := join1 (d :: r)
    show [c] ++ ([] ++ TL.joinL [] ((d :: r).map fun c => [c])) = _
    rw [ih]
    rfl
theorem join_S1 (cs : List Nat) : Txt.join (S []) ((cs.map fun c => [c]).map S) = S cs := by rw [_root_.SX.join_S, join1]
theorem sum_one : ∀ cs : List Nat, (((cs.map fun c => [c]).map S).map (·.length)).sum = cs.length
  | [] => rfl
  | c :: r => by
    have ih := sum_one r
    simp only [List.map_cons, List.sum_cons] at *
    rw [ih, S_len]
    simp only [List.length_cons, List.length_nil]
    omega
theorem all_okt {l : List Nat} (h : l.all MS.okc = true) : l.all okt = true := List.all_eq_true.mpr fun c hc => by
  unfold okt
  rw [List.all_eq_true.mp h c hc]
  rfl
theorem tab_all {l : List Nat} {n : Nat} (h : l.all okt = true) : ((l.take n ++ [9]) ++ l.drop n).all okt = true := by
  rw [List.all_append, List.all_append, Bool.and_eq_true, Bool.and_eq_true]
  exact ⟨⟨List.all_eq_true.mpr fun c hc => List.all_eq_true.mp h c (List.mem_of_mem_take hc), rfl⟩, List.all_eq_true.mpr fun c hc => List.all_eq_true.mp h c (List.mem_of_mem_drop hc)⟩
theorem reps_all {n : Nat} {l : List Nat} (h : l.all MS.okc = true) : (reps n l).all okt = true := all_okt (List.all_eq_true.mpr fun c hc => List.all_eq_true.mp h c (reps_mem hc))
theorem reps_le {n : Nat} {l : List Nat} (h : n ≤ 25) (hl : l.length ≤ 40) : (reps n l).length ≤ 1000 := by
  rw [reps_len]
  exact Nat.mul_le_mul h hl
def spDrawn : Sp := fun vs H Q _ => ∃ (q : Addr) (o : HO), vs = [.ref q] ∧ H q = some o ∧ IsPool o ∧ ∀ (l : List Nat) H', l.length ≤ 1002 → l.all okt = true → DX q H H' → Q (.str (S l)) H'
theorem ok_drawn (T : Txt K mg) : FnOk P w K mg base CX0 2 T.f_drawn T.fd_drawn ["_law_pool_here"] spDrawn := by
  have G_take := ok_take (P := P) (w := w) (base := base) T
  have G_menu := ok_menu (P := P) (w := w) (base := base) T
  refine T.F_drawn.ok sc_drawn (fun vs H Q E h => ?_) (fun cdv A outer s H vs Q E hr h => ?_)
  · obtain ⟨q, o, rfl, _⟩ := h
    rfl
  · obtain ⟨q, o, rfl, ho, hp, hq⟩ := h
    refine ⟨_, (pss_cons (ps_set (i := 1) sc_drawn.nd rfl (.inr rfl) (pe_call G_menu (hr.mono (by decide)) (by rfl) T.g_menu T.F_menu.kp T.b_menu .nil pass0 (pa_cons (pe_call G_take (hr.mono (by decide)) (by rfl) T.g_take T.F_take.kp T.b_take .nil pass0 (pa_cons (pv 0) (pa_cons pe_int pa_nil))) pa_nil)))
 (pss_cons (ps_set (i := 2) sc_drawn.nd rfl (.inl rfl) (pe_call G_take (hr.mono (by decide)) (by rfl) T.g_take T.F_take.kp T.b_take .nil pass0 (pa_cons (pv 0) (pa_cons pe_int pa_nil))))
 (pss_cons (ps_set (i := 3) sc_drawn.nd rfl (.inl rfl) (pe_call G_take (hr.mono (by decide)) (by rfl) T.g_take T.F_take.kp T.b_take .nil pass0 (pa_cons (pv 0) (pa_cons pe_int pa_nil))))
 (pss_cons (ps_set (i := 4) sc_drawn.nd rfl (.inl rfl) pe_int)
 (pss_cons (ps_if (pt_cmpR op_eq (pe_call G_take (hr.mono (by decide)) (by rfl) T.g_take T.F_take.kp T.b_take .nil pass0 (pa_cons (pv 0) (pa_cons pe_int pa_nil))) pe_int (nomark _)) (pss_one (ps_set (i := 4) sc_drawn.nd rfl (.inl rfl) (pe_op op_add pe_int (pe_call G_take (hr.mono (by decide)) (by rfl) T.g_take T.F_take.kp T.b_take .nil pass0 (pa_cons (pv 0) (pa_cons pe_int pa_nil)))))) pss_nil)
 (pss_cons (ps_set (i := 5) sc_drawn.nd rfl (.inl rfl) (pe_op MT.op_mulS (pe_join (MT.pe_strS (l := []) (by decide +kernel)) (pe_lc (own := [("_law_k", 6)]) (g := gName 6) (tt := tYes) (by rfl) sc_drawn.nd (pi_range1 (by rfl) T.m_range (pa_cons (pv 2) pa_nil)) (blkOk_by (own := [("_law_k", 6)]) (N := N_drawn) (sc := defScope s_drawn) (by decide +kernel)) (fun _ _ _ _ _ => pg_name (i := 6) sc_drawn.nd rfl (Or.inl rfl)) (fun _ _ _ _ _ => pts_nil) (fun _ _ _ _ _ => (pe_ix ix_str (pv 1) (pe_call G_take (hr.mono (by decide)) (by rfl) T.g_take T.F_take.kp T.b_take .nil pass0 (pa_cons (pv 0) (pa_cons (pe_callB MT.call_lenS (by rfl) T.m_len (by decide +kernel) (pa_cons (pv 1) pa_nil)) pa_nil))) (fun _ _ => rfl))))) (pv 4)))
 (pss_cons (ps_for PassesOwn.never rfl (pi_range1 (by rfl) T.m_range (pa_cons pe_int pa_nil)) (pg_name (i := 6) sc_drawn.nd rfl (.inl rfl)) (pss_one (ps_if (pt_chain op_lt op_lt (pv 6) (pv 3) pe_int) (pss_cons (ps_set (i := 7) sc_drawn.nd rfl (.inl rfl) (pe_call G_take (hr.mono (by decide)) (by rfl) T.g_take T.F_take.kp T.b_take .nil pass0 (pa_cons (pv 0) (pa_cons (pe_op op_add (pe_callB MT.call_lenS (by rfl) T.m_len (by decide +kernel) (pa_cons (pv 5) pa_nil)) pe_int) pa_nil))))
 (pss_one (ps_set (i := 5) sc_drawn.nd rfl (.inl rfl) (pe_op MT.op_addS (pe_op MT.op_addS (pe_slice sl_str (pv 5) po_none (po_some (pv 7))) (MT.pe_strS (l := [9]) (by decide +kernel))) (pe_slice sl_str (pv 5) (po_some (pv 7)) po_none))))) pss_nil)))
 (pss_one (ps_ret (pv 5)))))))))), ?_⟩
    refine Z.w_start (σ' := [some (.ref q), none, none, none, none, none, none, none]) rfl ?_
    walk_at "w"
    rename_i r o1 h0 h1 hp1
    refine use_menu fun sg sga sgn sgl => ?_
    have sgp : 0 < sg.length := List.length_pos_iff.mpr sgn
    walk_at "w"
    rename_i sz o2 z0 z1 hp2 tb o3 t0 t1 hp3 r8 o4 e0 e1 hp4
    walk_at "wi"
    · walk_at "w"
      rename_i tm o9 tm0 tm1 hp9
      refine ⟨by omega, by omega, fun D hD => ?_⟩
      obtain ⟨hDq, hDn⟩ := fresh_of hD
      refine lc_range (lo := 0) (n := _) (fun i H' => SX q H H' ∧ (∃ o3, H' q = some o3 ∧ IsPool o3) ∧ ∃ cs : List Nat, H' D = some (.lst (((cs.map fun c => [c]).map S).map V.str)) ∧ cs.length = i ∧ i ≤ 40 ∧ cs.all MS.okc = true) ?_ ?_ ?_
      · exact ⟨((SX.refl H).at).own hDn, ⟨_, by rw [upd_ne (Ne.symm hDq)]; exact upd_same, by assumption⟩, [], upd_same, rfl, by omega, rfl⟩
      · rintro i H' hi ⟨sm, ⟨o3, hq3, hp3⟩, cs, hcs, hl, hi2, hca⟩
        refine Z.w_gname (σ' := [some (.ref q), some (.str (S sg)), some (.int sz), some (.int tb), some (.int (1 + tm)), none, some (.int (0 + i)), none]) rfl ?_
        refine ⟨rfl, ?_⟩
        walk_at "w"
        rename_i r9 o4 f0 f1 hp4
        obtain ⟨c, hc9, hcm⟩ := pickN (l := sg) (k := r9) f0 f1
        walk_at "w"
        refine ⟨_, by rw [upd_ne hDq]; exact hcs, by simp only [List.length_map, hl]; exact Nat.lt_of_le_of_lt hi2 (by decide), (sm.at).own hDn, ⟨_, by rw [upd_ne (Ne.symm hDq)]; exact upd_same, hp4⟩, cs ++ [c], ?_, by rw [List.length_append, hl]; rfl, by omega, ?_⟩
        · rw [upd_same, List.map_append, List.map_append, List.map_append]
          rfl
        · rw [List.all_append, hca]
          simp [List.all_eq_true.mp sga c hcm]
      · rintro H1 ⟨sm, ⟨o3, hq3, hp3⟩, cs, hcs, hl, hi2, hca⟩
        walk_at "w"
        refine ⟨_, D, (cs.map fun c => [c]).map S, rfl, rfl, .inl (.inl (.inl hcs)), ?_, ?_⟩
        · rw [sum_one, List.length_map, List.length_map, S_len]
          simp only [List.length_nil]
          omega
        · rw [join_S1]
          walk_at "w"
          refine w_mulS (l := cs) (n := 1 + tm) (m := (1 + tm).toNat) (by omega) (by omega) (by omega) (by omega) ?_
          have hr1 := reps_le (n := (1 + tm).toNat) (l := cs) (by omega) (by omega)
          have hr2 := reps_all (n := (1 + tm).toNat) hca
          walk_at "w"
          refine ⟨by omega, by omega, ?_⟩
          refine for_range (lo := 0) (n := _) (fun i σ H2 => ∃ (x6 x7 : Option V) (l2 : List Nat), σ = [some (.ref q), some (.str (S sg)), some (.int sz), some (.int tb), some (.int (1 + tm)), some (.str (S l2)), x6, x7] ∧ DX q H H2 ∧ l2.length ≤ 1000 + i ∧ l2.all okt = true) ?_ ?_ ?_
          · exact ⟨none, none, _, rfl, ⟨sm, o3, hq3, hp3⟩, hr1, hr2⟩
          · rintro i σ H2 hi ⟨x6, x7, l2, rfl, ⟨sm2, o5, hq5, hp5⟩, hl2, ha2⟩
            have hi' : i < 2 := hi
            walk_at "w"
            walk_at "wi"
            · walk_at "w"
              walk_at "wi"
              · walk_at "w"
                rename_i r10 o6 j0 j1 hp6
                walk_at "w"
                exact ⟨_, _, _, rfl, ⟨sm2.at, o6, upd_same, hp6⟩, by simp only [List.length_append, List.length_take, List.length_drop, List.length_cons, List.length_nil]; omega, tab_all ha2⟩
              · walk_at "w"
                exact ⟨_, _, _, rfl, ⟨sm2, o5, hq5, hp5⟩, by omega, ha2⟩
            · walk_at "w"
              exact ⟨_, _, _, rfl, ⟨sm2, o5, hq5, hp5⟩, by omega, ha2⟩
          · rintro σ H2 ⟨x6, x7, l2, rfl, dx, hl2, ha2⟩
            have h2 : Int.toNat 2 = 2 := rfl
            walk_at "w"
            exact hq l2 H2 (by omega) ha2 dx
    · walk_at "w"
      refine ⟨by omega, by omega, fun D hD => ?_⟩
      obtain ⟨hDq, hDn⟩ := fresh_of hD
      refine lc_range (lo := 0) (n := _) (fun i H' => SX q H H' ∧ (∃ o3, H' q = some o3 ∧ IsPool o3) ∧ ∃ cs : List Nat, H' D = some (.lst (((cs.map fun c => [c]).map S).map V.str)) ∧ cs.length = i ∧ i ≤ 40 ∧ cs.all MS.okc = true) ?_ ?_ ?_
      · exact ⟨((SX.refl H).at).own hDn, ⟨_, by rw [upd_ne (Ne.symm hDq)]; exact upd_same, by assumption⟩, [], upd_same, rfl, by omega, rfl⟩
      · rintro i H' hi ⟨sm, ⟨o3, hq3, hp3⟩, cs, hcs, hl, hi2, hca⟩
        refine Z.w_gname (σ' := [some (.ref q), some (.str (S sg)), some (.int sz), some (.int tb), some (.int (1)), none, some (.int (0 + i)), none]) rfl ?_
        refine ⟨rfl, ?_⟩
        walk_at "w"
        rename_i r9 o4 f0 f1 hp4
        obtain ⟨c, hc9, hcm⟩ := pickN (l := sg) (k := r9) f0 f1
        walk_at "w"
        refine ⟨_, by rw [upd_ne hDq]; exact hcs, by simp only [List.length_map, hl]; exact Nat.lt_of_le_of_lt hi2 (by decide), (sm.at).own hDn, ⟨_, by rw [upd_ne (Ne.symm hDq)]; exact upd_same, hp4⟩, cs ++ [c], ?_, by rw [List.length_append, hl]; rfl, by omega, ?_⟩
        · rw [upd_same, List.map_append, List.map_append, List.map_append]
          rfl
        · rw [List.all_append, hca]
          simp [List.all_eq_true.mp sga c hcm]
      · rintro H1 ⟨sm, ⟨o3, hq3, hp3⟩, cs, hcs, hl, hi2, hca⟩
        walk_at "w"
        refine ⟨_, D, (cs.map fun c => [c]).map S, rfl, rfl, .inl (.inl (.inl hcs)), ?_, ?_⟩
        · rw [sum_one, List.length_map, List.length_map, S_len]
          simp only [List.length_nil]
          omega
        · rw [join_S1]
          walk_at "w"
          refine w_mulS (l := cs) (n := 1) (m := 1) (by omega) (by omega) (by omega) (by omega) ?_
          have hr1 := reps_le (n := 1) (l := cs) (by omega) (by omega)
          have hr2 := reps_all (n := 1) hca
          walk_at "w"
          refine ⟨by omega, by omega, ?_⟩
          refine for_range (lo := 0) (n := _) (fun i σ H2 => ∃ (x6 x7 : Option V) (l2 : List Nat), σ = [some (.ref q), some (.str (S sg)), some (.int sz), some (.int tb), some (.int (1)), some (.str (S l2)), x6, x7] ∧ DX q H H2 ∧ l2.length ≤ 1000 + i ∧ l2.all okt = true) ?_ ?_ ?_
          · exact ⟨none, none, _, rfl, ⟨sm, o3, hq3, hp3⟩, hr1, hr2⟩
          · rintro i σ H2 hi ⟨x6, x7, l2, rfl, ⟨sm2, o5, hq5, hp5⟩, hl2, ha2⟩
            have hi' : i < 2 := hi
            walk_at "w"
            walk_at "wi"
            · walk_at "w"
              walk_at "wi"
              · walk_at "w"
                rename_i r10 o6 j0 j1 hp6
                walk_at "w"
                exact ⟨_, _, _, rfl, ⟨sm2.at, o6, upd_same, hp6⟩, by simp only [List.length_append, List.length_take, List.length_drop, List.length_cons, List.length_nil]; omega, tab_all ha2⟩
              · walk_at "w"
                exact ⟨_, _, _, rfl, ⟨sm2, o5, hq5, hp5⟩, by omega, ha2⟩
            · walk_at "w"
              exact ⟨_, _, _, rfl, ⟨sm2, o5, hq5, hp5⟩, by omega, ha2⟩
          · rintro σ H2 ⟨x6, x7, l2, rfl, dx, hl2, ha2⟩
            have h2 : Int.toNat 2 = 2 := rfl
            walk_at "w"
            exact hq l2 H2 (by omega) ha2 dx
theorem use_drawn {q : Addr} {o : HO} {H : Hp} {Q : VK} {E : XK} (ho : H q = some o) (hp : IsPool o) (h : ∀ (l : List Nat) H', l.length ≤ 1002 → l.all okt = true → DX q H H' → Q (.str (S l)) H') : spDrawn [.ref q] H Q E := ⟨q, o, rfl, ho, hp, h⟩
end
end L

namespace X2
open PySem PySem.Spec PyProof.Rows L2
theorem roomM {k : Nat} {A : Around} (r : Room k A) (h : Option Value) : L2H.RoomH k (A.mark h) := ⟨r.dp, r.un⟩
theorem passH0 {X : Cx} : ∀ σ : L2.St, PassesAt CX0 X σ E0 := fun _ _ _ _ _ _ _ h => h.elim
end X2

local macro_rules | `(tactic| walk_at "w1") => `(tactic| first
  | ((with_reducible refine' X2.w_xfv ?ws ?wd ?wl ?_); (case ws => exact rfl); (case wd => walk_at "hp"); (case wl => (first | exact rfl | decide | simp)))
  | ((with_reducible refine' MT.w_strI ?wh ?_); (case wh => omega))
  | ((with_reducible refine Z.w_iteNF ?wh ?_); (case wh => exact rfl))
  | ((with_reducible refine Z.w_iteNT ?wh ?_); (case wh => (intro h; cases h; done)))
  | ((with_reducible refine' Z.w_rNe ?wh ?_); (case wh => exact rfl))
  | with_reducible refine X2.w_callSH ?_
  | fail "w1")

namespace L
open PySem PySem.Spec PyProof.Rows L2 Z MT X2
open _root_.SX (S S_len S_cat S_inj)
section
variable {P : Program} {w : World} {K : PySem.W.Frag} {mg : Str → Option Value} {base : Heap}
def spRefused : Sp := fun vs H Q _ => ∃ (a : List Nat) (c : Nat) (b : List Nat) (k : Bool), vs = [.str (S (a ++ c :: b)), .bl k] ∧ (a ++ c :: b).length ≤ 2000 ∧ a.all MS.okc = true ∧ MS.okc c = false ∧ ∀ H', Same H H' → Q (.int (a.length : Nat)) H'
theorem bad_uniq : ∀ {a a' b b' : List Nat} {c c' : Nat}, a ++ c :: b = a' ++ c' :: b' → a.all MS.okc = true → MS.okc c = false → a'.all MS.okc = true → MS.okc c' = false → a = a'
  | [], [], b, b', c, c', _, _, _, _, _ => rfl
  | [], d :: a', b, b', c, c', h, _, h2, h3, _ => by
    have : c = d := by simpa using (List.cons.inj h).1
    rw [List.all_cons, Bool.and_eq_true] at h3
    rw [this, h3.1] at h2
    cases h2
  | d :: a, [], b, b', c, c', h, h1, _, _, h4 => by
    have : d = c' := by simpa using (List.cons.inj h).1
    rw [List.all_cons, Bool.and_eq_true] at h1
    rw [← this, h1.1] at h4
    cases h4
  | d :: a, d' :: a', b, b', c, c', h, h1, h2, h3, h4 => by
    obtain ⟨e1, e2⟩ := List.cons.inj h
    rw [List.all_cons, Bool.and_eq_true] at h1 h3
    rw [e1, bad_uniq e2 h1.2 h2 h3.2 h4]
theorem no_ok {a b : List Nat} {c : Nat} (hc : MS.okc c = false) : ¬ (a ++ c :: b).all MS.okc = true := fun h => by
  rw [List.all_append, List.all_cons, hc] at h
  simp at h
theorem ok_refused (T : Txt K mg) : FnOk P w K mg base CX0 4 T.f_refused T.fd_refused ["_law_text", "_law_base"] spRefused := by
  have G_scan := ok_scan (P := P) (w := w) (base := base) T
  refine T.F_refused.ok sc_refused (fun vs H Q E h => ?_) (fun cdv A outer s H vs Q E hr h => ?_)
  · obtain ⟨a, c, b, k, rfl, _⟩ := h
    rfl
  · obtain ⟨a, c, b, k, rfl, hl, ha, hc, h⟩ := h
    refine ⟨_, (pss_cons (ps_if (pt_not (pt_val (pv 1))) (pss_cons (L2N.ps_try_as (i := 2)  rfl rfl sc_refused.nd rfl rfl ⟨rfl, by decide, .inl T.c_BadText⟩ X2.takesN (fun W pn xe tk _ => (pss_one (ps_expr (pe_callS G_scan (hr.mono (by decide)) (by rfl) T.g_scan T.F_scan.kp T.b_scan (fun σ => L2N.passAt tk σ) (by exact (pa_cons (pv 0) pa_nil)))))) (fun a oe cls d pn hz hf => (pss_one (ps_ret (pe_xf T.xo_BadText.xf T.xo_BadText.no hz.zc hf (pv 2))))))
 (pss_one (ps_ret pe_non))) pss_nil)
 (pss_cons (L2N.ps_try_as (i := 2)  rfl rfl sc_refused.nd rfl rfl ⟨rfl, by decide, .inl T.c_PaperError⟩ X2.takesN (fun W pn xe tk _ => (pss_one (ps_expr (pe_callS G_scan (hr.mono (by decide)) (by rfl) T.g_scan T.F_scan.kp T.b_scan (fun σ => L2N.passAt tk σ) (by exact (pa_cons (pv 0) pa_nil)))))) (fun a oe cls d pn hz hf => (pss_cons (ps_if (PW.pt (pw_or (pt_val (pe_callB (X2.call_isX1 hz.zc hf) (by rfl) T.m_isinstance (by decide +kernel) (pa_cons (pv 2) (pa_cons (pe_glob (v := .ref T.C_UnknownName) (by rfl) T.c_UnknownName rfl) pa_nil)))) (pw_or (pt_val (pe_callB (X2.call_isX1 hz.zc hf) (by rfl) T.m_isinstance (by decide +kernel) (pa_cons (pv 2) (pa_cons (pe_glob (v := .ref T.C_NameTaken) (by rfl) T.c_NameTaken rfl) pa_nil)))) (pw_or1 (pt_val (pe_callB (X2.call_isX1 hz.zc hf) (by rfl) T.m_isinstance (by decide +kernel) (pa_cons (pv 2) (pa_cons (pe_glob (v := .ref T.C_BadSort) (by rfl) T.c_BadSort rfl) pa_nil)))))))) (pss_one (ps_ret pe_non)) pss_nil)
 (pss_one (ps_if (PW.pt (pw_and (pt_val (pe_callB (X2.call_isX1 hz.zc hf) (by rfl) T.m_isinstance (by decide +kernel) (pa_cons (pv 2) (pa_cons (pe_glob (v := .ref T.C_BadText) (by rfl) T.c_BadText rfl) pa_nil)))) (pw_and1 (pt_val (pe_callB (X2.call_isX1 hz.zc hf) (by rfl) T.m_isinstance (by decide +kernel) (pa_cons (pv 2) (pa_cons (pe_bltn (v := .ty "ValueError") (by rfl) T.m_ValueError (by decide +kernel) rfl) pa_nil))))))) (pss_one (ps_ret (pe_xf T.xo_BadText.xf T.xo_BadText.no hz.zc hf (pv 2)))) pss_nil)))))
 (pss_one (ps_ret pe_non)))), ?_⟩
    refine Z.w_start (σ' := [some (.str (S (a ++ c :: b))), some (.bl k), none]) rfl ?_
    walk_at "w"
    cases k with
    | false =>
      walk_at "w"
      refine use_scan hl (fun z => absurd z (no_ok hc)) fun a' c' b' e1 e2 e3 d H' s1 hd => ⟨true, T.e_BadText_BadText, fun _ x hx => ?_, fun q => nomatch q⟩
      have ea := bad_uniq e1 ha hc e2 e3
      subst ea
      refine Z.w_start (σ' := [some (.str (S (a ++ c :: b))), some (.bl false), some (.ref x)]) rfl ?_
      walk_at "w"
      exact h _ s1
    | true =>
      walk_at "w"
      refine use_scan hl (fun z => absurd z (no_ok hc)) fun a' c' b' e1 e2 e3 d H' s1 hd => ⟨true, T.e_BadText_PaperError, fun _ x hx => ?_, fun q => nomatch q⟩
      have ea := bad_uniq e1 ha hc e2 e3
      subst ea
      refine Z.w_start (σ' := [some (.str (S (a ++ c :: b))), some (.bl true), some (.ref x)]) rfl ?_
      walk_at "w"
      refine w_isX1 T.xo_BadText.xc (by walk_at "hp") (.own _) T.k_BadText_UnknownName ?_
      walk_at "w"
      refine w_isX1 T.xo_BadText.xc (by walk_at "hp") (.own _) T.k_BadText_NameTaken ?_
      walk_at "w"
      refine w_isX1 T.xo_BadText.xc (by walk_at "hp") (.own _) T.k_BadText_BadSort ?_
      walk_at "w"
      refine w_isX1 T.xo_BadText.xc (by walk_at "hp") (.own _) T.k_BadText_BadText ?_
      walk_at "w"
      refine w_isX1 T.xo_BadText.xc (by walk_at "hp") (.ty _) T.k_BadText_ValueError ?_
      walk_at "w"
      exact h _ (by walk_at "same")
theorem use_refused {a : List Nat} {c : Nat} {b : List Nat} {k : Bool} {H : Hp} {Q : VK} {E : XK} (hl : (a ++ c :: b).length ≤ 2000) (ha : a.all MS.okc = true) (hc : MS.okc c = false) (h : ∀ H', Same H H' → Q (.int (a.length : Nat)) H') : spRefused [.str (S (a ++ c :: b)), .bl k] H Q E := ⟨a, c, b, k, rfl, hl, ha, hc, h⟩
end
end L

namespace PA
open PySem
/-- a text of steps without a call: its posts may be taken together -/
def Pl {α : Type} : Sem α → Prop
  | .pure _ => True
  | .raise _ => True
  | .unsupported _ => True
  | .rule _ k => Pl (k ())
  | .at _ k => Pl (k ())
  | .load _ _ k => ∀ o, Pl (k o)
  | .update _ _ _ k => Pl (k ())
  | .fresh k => ∀ t, Pl (k t)
  | .ask k => ∀ t, Pl (k t)
  | _ => False
theorem pl_bind {α β : Type} (t : Sem α) (f : α → Sem β) (hf : ∀ a, Pl (f a)) : Pl t → Pl (t.bind f) := by
  induction t with
  | pure a => exact fun _ => hf a
  | raise e => exact fun _ => trivial
  | unsupported _ => exact fun _ => trivial
  | rule _ k ih => exact fun h => ih () h
  | «at» _ k ih => exact fun h => ih () h
  | load _ _ k ih => exact fun h o => ih o (h o)
  | update _ _ _ k ih => exact fun h => ih () h
  | fresh k ih => exact fun h o => ih o (h o)
  | ask k ih => exact fun h o => ih o (h o)
  | _ => exact fun h => h.elim
theorem wp_and {α : Type} (M : Model) (Γ : Ctx) (t : Sem α) : ∀ (Q Q' : α → Pos → Shared → Prop) (E E' : Value → Pos → Shared → Prop) (p : Pos) (s : Shared), Pl t → Sem.wp M Γ t Q E p s → Sem.wp M Γ t Q' E' p s →
    Sem.wp M Γ t (fun a p s => Q a p s ∧ Q' a p s) (fun a p s => E a p s ∧ E' a p s) p s := by
  induction t with
  | pure a => exact fun Q Q' E E' p s _ h h' => ⟨h, h'⟩
  | raise e => exact fun Q Q' E E' p s _ h h' => ⟨h, h'⟩
  | unsupported _ => exact fun Q Q' E E' p s _ h _ => h
  | rule _ k ih => exact fun Q Q' E E' p s c h h' => ih () Q Q' E E' p s c h h'
  | «at» p' k ih => exact fun Q Q' E E' p s c h h' => ih () Q Q' E E' p' s c h h'
  | load a _ k ih =>
    intro Q Q' E E' p s c h h'
    obtain ⟨o, ho, h⟩ := h
    obtain ⟨o', ho', h'⟩ := h'
    have e := Option.some.inj (ho.symm.trans ho')
    subst e
    exact ⟨o, ho, ih o Q Q' E E' p s (c o) h h'⟩
  | update a _ f k ih => exact fun Q Q' E E' p s c h h' => ⟨h.1, ih () Q Q' E E' p _ c h.2 h'.2⟩
  | fresh k ih => exact fun Q Q' E E' p s c h h' => ih _ Q Q' E E' p _ (c _) h h'
  | ask k ih => exact fun Q Q' E E' p s c h h' => ih _ Q Q' E E' p s (c _) h h'
  | _ => exact fun _ _ _ _ _ _ c => c.elim
theorem wpAny_and {α : Type} {M : Model} {A : Around} {t : Sem α} {Q Q' : α → Shared → Prop} {E E' : Value → Shared → Prop} {s : Shared} (c : Pl t) (h : wpAny M A t Q E s) (h' : wpAny M A t Q' E' s) :
    wpAny M A t (fun a s => Q a s ∧ Q' a s) (fun a s => E a s ∧ E' a s) s := fun Γ p hΓ => wp_and M Γ t _ _ _ _ p s c (h Γ p hΓ) (h' Γ p hΓ)
theorem pl_nsSet (a : Addr) (x : Str) (v : Value) : Pl (nsSet a x v) := by
  refine pl_bind _ _ (fun h => ?_) ?_
  · refine pl_bind _ _ (fun key => ?_) ?_
    · refine pl_bind _ _ (fun o => ?_) (fun _ => trivial)
      dsimp only
      split
      · split
        · exact trivial
        · exact trivial
      · exact trivial
    · exact pl_bind _ _ (fun _ => trivial) (fun _ => trivial)
  · exact pl_bind _ _ (fun _ => trivial) (fun _ => trivial)
end PA

namespace PA
open PySem PySem.Spec PyProof.Rows L2
/-- a name's own value is a text with a token of its own -/
def TokK (X : Cx) (x z : Str) (s : Shared) : Prop := ∃ (m : Str → Option Value) (t : Nat), s.heap.Ns X.env.locals m ∧ m x = some (.str z t) ∧ 1 ≤ t ∧ t < s.toks
theorem store_raw {X : Cx} {pins : List (Addr × Obj)} {σ : L2.St} {H : Hp} {s : Shared} {M : Model} {A : Around} {E : Value → Shared → Prop} {i : Nat} {x : Str} {v : V} {u : Value} (I : L2.Inv X pins σ H s) (hN : X.N.Nodup) (hi : X.N[i]? = some x) (hx : X.env.scope.names.lookup x = some .local) (r : RelV v u) :
    wpAny M A (storeName X.env x u) (fun _ s' => L2.Inv X pins (σ.set i (some v)) H s' ∧ (∃ m, s'.heap.Ns X.env.locals m ∧ m x = some u) ∧ s'.toks = s.toks + 1) E s := by
  obtain ⟨m, hn, _⟩ := id I.loc
  have hcls : (X.env.scope.kind == .class || (X.env.scope.kind == .module && X.env.locals != X.env.globals)) = false := by rw [I.ok.kind]; rfl
  have h1 : wpAny M A (storeName X.env x u) (fun _ s' => L2.Inv X pins (σ.set i (some v)) H s') E s := store_ok I hN hi (.inl hx) r (fun _ I' => I') (.inr hx)
  have h2 : wpAny M A (storeName X.env x u) (fun _ s' => (∃ m, s'.heap.Ns X.env.locals m ∧ m x = some u) ∧ s'.toks = s.toks + 1) E s := wpAny_storeName_local hx hn (fun h' hn' _ => ⟨⟨_, hn', by simp⟩, rfl⟩) hcls
  rw [storeName_local hx hcls] at h1 h2 ⊢
  exact wpAny_mono (wpAny_and (pl_nsSet _ _ _) h1 h2) (fun _ _ q => q) fun _ _ q => q.1
def PSk (R : Shared → Prop) (X : Cx) (b : List Stmt) (t : TS) : Prop := ∀ (pins : List (Addr × Obj)) (s : Shared) (σ : L2.St) (H : Hp) (D : Ends), R s → L2.Inv X pins σ H s → t D σ H → wpAny (model X.prog X.w) X.A (execs b X.env) (SP X pins D) X.xe s
def PTk (R : Shared → Prop) (X : Cx) (e : Expr) (t : TT) : Prop := ∀ (pins : List (Addr × Obj)) (s : Shared) (σ : L2.St) (H : Hp) (Q : Bool → Hp → Prop), R s → L2.Inv X pins σ H s → t σ H Q → wpAny (model X.prog X.w) X.A (isTrue e X.env (eval e X.env)) (fun c s1 => ∃ H1, L2.Inv X pins σ H1 s1 ∧ Q c H1) X.xe s
def PEk (R : Shared → Prop) (X : Cx) (e : Expr) (t : TE) : Prop := ∀ (pins : List (Addr × Obj)) (s : Shared) (σ : L2.St) (H : Hp) (Q : VK), R s → L2.Inv X pins σ H s → t σ H Q → wpAny (model X.prog X.w) X.A (eval e X.env) (EP X pins σ Q) X.xe s
/-- for x in [three texts] -/
def tForZ (i : Nat) (zs : List Str) (tb : Str → TS) : TS := fun D σ H => ∀ (q : Addr) (o : Obj), H q = none → ∃ Pv : Nat → L2.St → Hp → Prop, Pv 0 σ (upd H q (.frz o (.lst (zs.map V.str)))) ∧
  (∀ k z σ H, zs[k]? = some z → Pv k σ H → tb z { D with nx := Pv (k + 1), ct := Pv (k + 1), bk := D.nx } (σ.set i (some (.str z))) H) ∧ (∀ k σ H, Pv k σ H → H q = some (.frz o (.lst (zs.map V.str)))) ∧ ∀ σ H, Pv zs.length σ H → D.nx σ H
theorem pst_forZ {X : Cx} {x y0 y1 y2 : Str} {i j0 j1 j2 : Nat} {c0 c1 c2 tp lp pos : Pos} {body : List Stmt} {tb : Str → TS} (hp : PassesOwn (model X.prog X.w) X.A X.env X.xe) (hc : X.calm = true) (hN : X.N.Nodup) (hi : X.N[i]? = some x) (hx : X.env.scope.names.lookup x = some .local)
    (hb : ∀ z, PSk (TokK X x z) X body (tb z))
    (hs : ∀ v, foldedSetIterable (.List [.Constant (.str y0) j0 c0, .Constant (.str y1) j1 c1, .Constant (.str y2) j2 c2] lp) X.env v = pure v := by intro _; rfl) :
    PST X (.For (.Name x tp) (.List [.Constant (.str y0) j0 c0, .Constant (.str y1) j1 c1, .Constant (.str y2) j2 c2] lp) body [] pos) (tForZ i [y0, y1, y2] tb) := by
  intro pins s σ H D h0 I h
  refine wpAny_For (wpAny_List_spliced ?_) hs
  show wpAny _ _ (spliced ((false, eval (.Constant (.str y0) j0 c0) X.env) :: backTo lp (starEach [.Constant (.str y1) j1 c1, .Constant (.str y2) j2 c2] X.env))) _ _ s
  refine Calls.spliced_cons (Calls.Constant_str ?_)
  show wpAny _ _ (spliced ((false, eval (.Constant (.str y1) j1 c1) X.env) :: backTo lp (starEach [.Constant (.str y2) j2 c2] X.env))) _ _ _
  refine Calls.spliced_cons (Calls.Constant_str ?_)
  show wpAny _ _ (spliced ((false, eval (.Constant (.str y2) j2 c2) X.env) :: backTo lp (starEach [] X.env))) _ _ _
  refine Calls.spliced_cons (Calls.Constant_str (Calls.spliced_nil ?_))
  have h3 : (3 : Nat) ≤ sizeLine := by decide
  refine ⟨h3, ?_⟩
  let its : List Value := [.str y0 s.toks, .str y1 (s.toks + 1), .str y2 (s.toks + 1 + 1)]
  let o : Obj := { cls := .type "list", data := .seq its.toArray 0 }
  let vs : List V := [y0, y1, y2].map V.str
  let q : Addr := s.heap.objs.size
  have rv : Vals vs its := .cons ⟨_, rfl⟩ (.cons ⟨_, rfl⟩ (.cons ⟨_, rfl⟩ .nil))
  have hq0 : H q = none := I.hok.fresh (Nat.le_refl _)
  have I1 : L2.Inv X pins σ (upd H q (.frz o (.lst vs))) { s with heap := s.heap.push o, toks := s.toks + 1 + 1 + 1 } :=
    I.laid (t' := s.toks + 1 + 1 + 1) (fun b u e => Heap.get?_push_of_some _ e) (Nat.le_refl _) ⟨Heap.get?_push_size _ rfl, h3, its, 0, rv, Heap.get?_push_size _ rfl⟩
  obtain ⟨Pv, p0, step, still, fin⟩ := h q o hq0
  have hl1 : (s.heap.push o).IsList q its.toArray := ⟨o, Heap.get?_push_size _ rfl, rfl, 0, rfl⟩
  show wpAny _ _ (pyIter (.ref q)) _ _ { s with heap := s.heap.push o, toks := s.toks + 1 + 1 + 1 }
  refine wpAny_pyIter_list (s := { s with heap := s.heap.push o, toks := s.toks + 1 + 1 + 1 }) hl1 ?_
  let it : Addr := (s.heap.push o).objs.size
  have hle : (s.heap.push o).objs.size ≤ it := Nat.le_refl _
  have fr0 : (upd H q (.frz o (.lst vs))) it = none := I1.hok.fresh hle
  have f2 := I1.fpOk hle fr0
  have I2 := I1.kept (t' := s.toks + 1 + 1 + 1) (h' := (s.heap.push o).push { cls := .type "list_iterator", data := .fields #[.ref q, .int 0 0] }) fun b u e => Heap.get?_push_of_some _ e
  have T := turn_list (P := X.prog) (w := X.w) (K := X.K) (tg := .Name x tp) q it
  have stat : ∀ {H' : Hp}, H' it = none → ∀ b ∈ [it], FpOk X pins H' b := fun hn b hb => by
    rw [List.mem_singleton.mp hb]
    exact ⟨hn, f2.2⟩
  have hlist : ∀ {σ' : L2.St} {H' : Hp} {s' : Shared}, L2.Inv X pins σ' H' s' → H' q = some (.frz o (.lst vs)) → s'.heap.IsList q its.toArray := fun J e => by
    obtain ⟨h5, _⟩ := J.hok q _ e
    exact ⟨o, h5, rfl, 0, rfl⟩
  refine codeAny_forLoop_any (fun n s' => ∃ k σ' H', k + n = 3 ∧ L2.Inv X pins σ' H' s' ∧ s'.heap.IsListIter it q k ∧ H' it = none ∧ s.toks + 3 ≤ s'.toks ∧ Pv k σ' H') ?_ 3 ⟨0, σ, _, rfl, I2, ⟨_, Heap.get?_push_size _ rfl, rfl, rfl⟩, fr0, Nat.le_refl _, p0⟩
  rintro n s3 ⟨k, σ3, H3, hk, I3, st3, fr3, tk3, pv3⟩
  have hq3 := still _ _ _ pv3
  have hl3 := hlist I3 hq3
  by_cases hk3 : k = 3
  · subst hk3
    refine wpAny_passesOwn hp (wpAny_pyNext_list_end (I3.ok.hd hc) st3 hl3 rfl fun h' eb => ?_)
    obtain ⟨f0, f1, f2', f3, f4, f5⟩ := stat fr3 it (by simp)
    exact wpAny_execs_nil ⟨σ3, H3, I3.turned (t' := s3.toks) (fun b o hb e => eb b o hb e) f0 f1 f3 f4 f5, fin _ _ pv3⟩
  · have hit : ∃ (z : Str) (t : Nat), [y0, y1, y2][k]? = some z ∧ its.toArray[k]? = some (.str z t) ∧ s.toks ≤ t ∧ t < s.toks + 3 := by
      match k, hk3, hk with
      | 0, _, _ => exact ⟨y0, s.toks, rfl, rfl, Nat.le_refl _, by omega⟩
      | 1, _, _ => exact ⟨y1, s.toks + 1, rfl, rfl, by omega, by omega⟩
      | 2, _, _ => exact ⟨y2, s.toks + 1 + 1, rfl, rfl, by omega, by omega⟩
      | 3, h, _ => exact absurd rfl h
      | m + 4, _, h => omega
    obtain ⟨z, t, hz, hu, ht1, ht2⟩ := hit
    obtain ⟨f0, f1, f2', f3, f4, f5⟩ := stat fr3 it (by simp)
    refine wpAny_passesOwn hp (wpAny_pyNext_list_item st3 hl3 (x := .str z t) hu fun h' st' sb => ?_)
    have I4 : L2.Inv X pins σ3 H3 { s3 with heap := h' } := I3.turned (t' := s3.toks) (fun b o hb e => (sb.2 b hb).trans e) f0 f1 f3 f4 f5
    obtain ⟨oi, e1, e2, e3⟩ := id st'
    refine wpAny_passesOwn hp (go_of (s := { s3 with heap := h' }) e1 e2 e3 (by decide) ?_)
    have I5 := I4.pinned (stat fr3) (T.obj _ _ st')
    refine wpAny_passesOwn hp (thn (wpAny_assign_Name (store_raw I5 hN hi hx (v := .str z) (u := .str z t) ⟨t, rfl⟩)) fun _ s6 ⟨I6, ⟨m, hm, hmx⟩, tk6⟩ => ?_)
    have tk6' : s6.toks = s3.toks + 1 := tk6
    refine wpAny_passesOwn hp (wpAny_mono (PySem.wpAny_toks (hb z _ s6 _ H3 _ ⟨m, t, hm, hmx, by omega, by omega⟩ I6 (step k z _ _ hz pv3))) (fun f s7 q7 => ?_) fun _ _ z => z.2)
    obtain ⟨tk7, q7⟩ := q7
    have again : ∀ {σ7 : L2.St} {H7 : Hp}, L2.Inv X (pins ++ pinsAt [it] h') σ7 H7 s7 → Pv (k + 1) σ7 H7 → ∃ m, m < n ∧ ∃ k σ' H', k + m = 3 ∧ L2.Inv X pins σ' H' s7 ∧ s7.heap.IsListIter it q k ∧ H' it = none ∧ s.toks + 3 ≤ s7.toks ∧ Pv k σ' H' := fun {σ7 H7} I7 n7 => by
      refine ⟨n - 1, by omega, k + 1, σ7, H7, by omega, I7.unpinned, T.keep _ _ _ st' fun b hb o e => (I7.pin (b, o) (List.mem_append_right _ (List.mem_append_right _ (mem_pinsAt hb e)))).1, ?_, by omega, n7⟩
      obtain ⟨o', e, d⟩ := T.obj _ _ st' it (by simp)
      exact (I7.pin (it, o') (List.mem_append_right _ (List.mem_append_right _ (mem_pinsAt (by simp) e)))).2.1
    cases f with
    | next => obtain ⟨σ7, H7, I7, n7⟩ := q7; exact again I7 n7
    | cont => obtain ⟨σ7, H7, I7, n7⟩ := q7; exact again I7 n7
    | brk => obtain ⟨σ7, H7, I7, q7⟩ := q7; exact ⟨σ7, H7, I7.unpinned, q7⟩
    | ret v => obtain ⟨x7, σ7, H7, I7, r7, q7⟩ := q7; exact ⟨x7, σ7, H7, I7.unpinned, r7, q7⟩
end PA

namespace PA
open PySem PySem.Spec PyProof.Rows L2
section
variable {X : Cx} {R : Shared → Prop}
theorem psk_if {c : Expr} {a b : List Stmt} {tc : TT} {t u : TS} {pos : Pos} (hc : PTk R X c tc) (ha : PSs X a t) (hb : PSs X b u) : PSk R X [.If c a b pos] (tIfS tc t u) := by
  intro pins s σ H D r I h
  refine wpAny_execs_cons (thn (wpAny_If (Q := fun f s1 => SP X pins D f s1) (thn (hc pins s σ H _ r I h) fun d s1 ⟨H1, I1, q1⟩ => ?_)) fun f s1 q => ?_)
  · cases d with
    | true => exact ha.run pins s1 σ H1 D I1 q1
    | false => exact hb.run pins s1 σ H1 D I1 q1
  · cases f with
    | next =>
      obtain ⟨σ', H', I', q⟩ := q
      exact wpAny_execs_nil ⟨σ', H', I', q⟩
    | ret v => exact q
    | brk => exact q
    | cont => exact q
theorem ptk_not {a : Expr} {ta : TT} {pos : Pos} (ha : PTk R X a ta) : PTk R X (.UnaryOp .Not a pos) (tNot ta) := by
  intro pins s σ H Q r I h
  exact isTrue_not (ha pins s σ H (fun c H1 => Q (!c) H1) r I h)
theorem ptk_val {e : Expr} {t : TE} (h : PEk R X e t) (he : ∀ whole, isTrue e X.env whole = (do let v ← whole; standAt e.pos; holding [v] (truthy v)) := by intro _; rfl) : PTk R X e (tB t) := by
  intro pins s σ H Q r I hw
  refine isTrue_plain (thn (h pins s σ H _ r I hw) fun v s1 ⟨x, H1, I1, r1, q1⟩ => ?_) (he _)
  obtain ⟨d, rfl, q⟩ := q1
  cases r1
  exact wpAny_truthy_bool ⟨H1, I1, q⟩
theorem pek_call {CX : CXT} {k : Nat} {f : Addr} {fd : FuncData} {ps : List Str} {sp : Sp} {E : XK} {x : Str} {e : Expr} {te : TE} {p pos : Pos} (F : FnOk X.prog X.w X.K X.mg X.base CX k f fd ps sp) (hr : Room k X.A) (hg : Gl X x) (hm : X.mg x = some (.ref f)) (hk : PySem.W.keepIn X.K (.ref f) = true) (hb : Binds X.K fd ps []) (hx : Passes CX X E)
    (ha : PEk R X e te) (hdb : (x == ("__debug__" : Str)) = false := by decide) (he : starEach [e] X.env = (false, eval e X.env) :: starEach [] X.env := by rfl) (hpl : (backTo pos (starEach [] X.env)).any (·.1) = false := by rfl) :
    PEk R X (.Call (.Name x p) [e] [] pos) (tCall sp [] E (tCons te tNil)) := by
  intro pins s σ H Q r I h
  refine wpAny_Call_Name_kw (ld_glob I hg hm ?_ hdb)
  refine PySem.W.callWith_K (h₀ := X.base) I.ok.mod.kin hk ?_ he hpl
  rw [he]
  show wpAny _ _ (spliced ((false, eval e X.env) :: backTo pos (starEach [] X.env))) _ _ s
  refine Calls.spliced_cons (thn (ha pins s σ H _ r I h) fun u s1 ⟨y, H1, I1, r1, q1⟩ => Calls.spliced_nil ⟨I1.kIn, ?_⟩)
  exact run_fn F hr hb .nil hx I1 (.cons r1 .nil) q1
/-- text.replace(written, name) -/
def tReplZ (y z : Str) (j : Nat) : TE := fun σ H Q => ∃ w : Str, σ[j]? = some (some (.str w)) ∧ (y == z) = false ∧ w.length + (w.length + 1) * z.length ≤ 16777216 ∧ Q (.str (Txt.replace w y z)) H
theorem pek_repl {x kx y z : Str} {ik j0 : Nat} {p1 p2 c0 apos pos : Pos} (hNk : X.N[ik]? = some kx) (hvk : Vis X.env.scope kx) (hx : X.env.scope.names.lookup x = some .local)
    (hdk : (kx == ("__debug__" : Str)) = false := by decide) (hck : (kx == ("__classdict__" : Str)) = false := by decide) (hdx : (x == ("__debug__" : Str)) = false := by decide)
    (hst : starEach [.Constant (.str y) j0 c0, .Name x p2] X.env = [(false, eval (.Constant (.str y) j0 c0) X.env), (false, eval (.Name x p2) X.env)] := by rfl)
    (hbase : attributeBase (.Name kx p1) "replace" X.env (eval (.Name kx p1) X.env) = eval (.Name kx p1) X.env := by rfl) (hline : (apos.endLine == pos.line) = true := by rfl) :
    PEk (TokK X x z) X (.Call (.Attribute (.Name kx p1) "replace" apos) [.Constant (.str y) j0 c0, .Name x p2] [] pos) (tReplZ y z ik) := by
  intro pins s σ H Q r I h
  obtain ⟨m, t, hm, hmx, h1, h2⟩ := r
  obtain ⟨w, hw, hyz, hb, q⟩ := h
  refine PySem.Call_method2 hbase hst hline (raw_name hNk hvk I hw (fun v r => ?_) hdk hck)
  obtain ⟨tx, e⟩ := r
  subst e
  refine ⟨"str", _, PySem.F.plainAttrs_str, PySem.F.slot_str_replace, PySem.F.type_str_replace, typeIs_str _ _ _, (fun _ e => nomatch e), Calls.callWith_builtin rfl (Calls.evalArgs_plain (Calls.spliced_cons ?_))⟩
  refine Calls.Constant_str (Calls.spliced_cons ?_)
  refine wpAny_Name (wpAny_loadName_local I.ok.kind hx hm hmx (Calls.spliced_nil ?_)) hdx
  exact PySem.SC.replace (show (s.toks : Nat) ≠ 0 by omega) (show t ≠ 0 by omega) (show (s.toks : Nat) ≠ t by omega) hyz hb fun t' k => ⟨.str (Txt.replace w y z), H, I.tok k, ⟨t', rfl⟩, q⟩
/-- behind a comparison of a written text a token is out -/
theorem pss_ifT {c : Str} {j : Nat} {cp cpos pos : Pos} {b : Expr} {op : CmpOp} {r : R2} {tb : TE} {a rest : List Stmt} {t u : TS} (ho : OpR X (compareOp op) r) (hb : PE X b tb) (ha : PSs X a t) (hr : PSsT X rest u) (hm : behindInMarks op b = false) :
    PSs X (.If (.Compare (.Constant (.str c) j cp) [op] [b] cpos) a [] pos :: rest) (tSeq (tIfS (tTest (tOp r (tC (.str c)) tb)) t tNext) u) := by
  refine ⟨fun pins s σ H D I h => ?_⟩
  refine wpAny_execs_cons (thn (wpAny_If (Q := fun f s1 => s.toks + 1 ≤ s1.toks ∧ SP X pins { D with nx := u D } f s1) (wpAny_isTrue_Compare1 (Calls.Constant_str ?_) hm)) fun f s1 q => ?_)
  · have J : L2.Inv X pins σ H { s with toks := s.toks + 1 } := I.tok _
    refine wpAny_mono (PySem.wpAny_toks (hb.run pins _ σ H _ J h)) (fun u1 s2 q0 => ?_) fun _ _ x => x.2
    obtain ⟨k2, y, H2, I2, r2, q2⟩ := q0
    refine wpAny_mono (PySem.wpAny_toks (ho pins s2 σ H2 (.str c) y _ u1 _ I2 ⟨_, rfl⟩ r2 q2)) (fun c3 s3 q0 => ?_) fun _ _ x => x.2
    obtain ⟨k3, z, H3, I3, r3, k, e, q3⟩ := q0
    subst e
    cases r3
    have k4 : (s.toks : Nat) + 1 ≤ s3.toks := Nat.le_trans k2 k3
    refine wpAny_truthy_bool ?_
    cases k with
    | true => exact wpAny_mono (PySem.wpAny_toks (ha.run pins s3 σ H3 _ I3 q3)) (fun f s4 q0 => ⟨Nat.le_trans k4 q0.1, q0.2⟩) fun _ _ x => x.2
    | false => exact wpAny_execs_nil ⟨k4, σ, H3, I3, q3⟩
  · obtain ⟨hk, q⟩ := q
    cases f with
    | next =>
      obtain ⟨σ', H', I', q⟩ := q
      exact hr pins s1 σ' H' D (by omega) I' q
    | ret v => exact q
    | brk => exact q
    | cont => exact q
end
end PA

namespace L
open PySem PySem.Spec PyProof.Rows L2 Z MT X2
open _root_.SX (S S_len S_cat S_inj)
section
variable {P : Program} {w : World} {K : PySem.W.Frag} {mg : Str → Option Value} {base : Heap}
def untab (d : Nat) (l : List Nat) : List Nat := l.map fun e => if e = 9 then d else e
theorem repl_tab (d : Nat) : ∀ l : List Nat, StrLaws.replL [9] [d] l = untab d l
  | [] => StrLaws.replL_nil
  | c :: r => by
    have ih := repl_tab d r
    by_cases h : c = 9
    · subst h
      rw [StrLaws.replL_hit (by simp) (by simp)]
      show [d] ++ StrLaws.replL [9] [d] r = _
      rw [ih]
      simp [untab]
    · rw [StrLaws.replL_miss (by simpa using h), ih]
      simp [untab, h]
theorem repl_S (d : Nat) (l : List Nat) : Txt.replace (S l) (S [9]) (S [d]) = S (untab d l) := by
  refine TL.ext_tl ?_
  show (Txt.replace (S l) (S [9]) (S [d])).cps.toList = untab d l
  rw [StrLaws.replace_list (show 1 ≤ (S [9]).length from Nat.le_refl _)]
  exact repl_tab d l
theorem untab_len (d : Nat) (l : List Nat) : (untab d l).length = l.length := by simp [untab]
theorem untab_ok {d : Nat} {l : List Nat} (hd : MS.okc d = true) (h : l.all okt = true) : (untab d l).all MS.okc = true := by
  refine List.all_eq_true.mpr fun c hc => ?_
  obtain ⟨e, he, rfl⟩ := List.mem_map.mp hc
  have k := List.all_eq_true.mp h e he
  unfold okt at k
  by_cases h9 : e = 9
  · rw [if_pos h9]; exact hd
  · rw [if_neg h9]
    simpa [h9] using k
theorem no_tab {l : List Nat} (h : l.all okt = true) (hn : ¬ 9 ∈ l) : l.all MS.okc = true := List.all_eq_true.mpr fun c hc => by
  have k := List.all_eq_true.mp h c hc
  unfold okt at k
  have h9 : c ≠ 9 := fun z => hn (z ▸ hc)
  simpa [h9] using k
theorem cut_tab : ∀ {l : List Nat}, 9 ∈ l → ∃ a b, l = a ++ 9 :: b ∧ ¬ 9 ∈ a
  | c :: r, h => by
    by_cases hc : c = 9
    · exact ⟨[], r, by rw [hc]; rfl, fun z => nomatch z⟩
    · obtain ⟨a, b, e, hn⟩ := cut_tab (l := r) (by
        rcases List.mem_cons.mp h with k | k
        · exact absurd k.symm hc
        · exact k)
      refine ⟨c :: a, b, by rw [e]; rfl, fun z => ?_⟩
      rcases List.mem_cons.mp z with k | k
      · exact hc k.symm
      · exact hn k
theorem use_replZ {y : Str} {l : List Nat} {d j : Nat} {σ : L2.St} {H : Hp} {Q : VK} (e : y = S [9]) (hs : σ[j]? = some (some (.str (S l)))) (hd : (S [9] == S [d]) = false) (hl : l.length ≤ 2000) (q : Q (.str (S (untab d l))) H) : PA.tReplZ y (S [d]) j σ H Q := by
  subst e
  refine ⟨S l, hs, hd, ?_, by rw [repl_S]; exact q⟩
  rw [S_len, S_len]
  simp only [List.length_cons, List.length_nil]
  omega
def spFine : Sp := fun vs H Q _ => ∃ (l : List Nat) (k : Bool), vs = [.str (S l), .bl k] ∧ l.length ≤ 1002 ∧ l.all okt = true ∧ ∀ H', Same H H' → Q (.bl true) H'
theorem ok_fine (T : Txt K mg) : FnOk P w K mg base CX0 5 T.f_fine T.fd_fine ["_law_text", "_law_base"] spFine := by
  have G_split := ok_split (P := P) (w := w) (base := base) T
  have G_refused := ok_refused (P := P) (w := w) (base := base) T
  have G_whole := ok_whole (P := P) (w := w) (base := base) T
  refine T.F_fine.ok sc_fine (fun vs H Q E h => ?_) (fun cdv A outer s H vs Q E hr h => ?_)
  · obtain ⟨l, k, rfl, _⟩ := h
    rfl
  · obtain ⟨l, k, rfl, hl, ha, h⟩ := h
    refine ⟨_, PA.pss_ifT MT.op_notInS (pv 0) (pss_one (ps_ret (pe_call G_split (hr.mono (by decide)) (by rfl) T.g_split T.F_split.kp T.b_split .nil pass0 (pa_cons (pv 0) pa_nil)))) (psst_cons (PST.of (ps_set (i := 2) sc_fine.nd rfl (.inl rfl) (pe_ix ix_list (pe_lc (own := [("_law_k", 3)]) (g := gName 3) (by rfl) sc_fine.nd (pi_range1 (by rfl) T.m_range (pa_cons (pe_callB MT.call_lenS (by rfl) T.m_len (by decide +kernel) (pa_cons (pv 0) pa_nil)) pa_nil)) (blkOk_by (own := [("_law_k", 3)]) (N := N_fine) (sc := defScope s_fine) (by decide +kernel)) (fun _ _ _ _ _ => pg_name (i := 3) sc_fine.nd rfl (Or.inl rfl)) (fun _ _ _ _ _ => pts_one (pt_cmpR op_eq (pe_ix ix_str (pv 0) (pv 3) (fun _ _ => rfl)) (MT.pe_strS (l := [9]) (by decide +kernel)) (nomark _))) (fun _ _ _ _ _ => (pv 3))) pe_int (fun _ _ => rfl)))) (psst_cons (PST.of (ps_for PassesOwn.never rfl (pi_range1 (by rfl) T.m_range (pa_cons pe_int pa_nil)) (pg_name (i := 4) sc_fine.nd rfl (.inl rfl)) (pss_cons (ps_set (i := 5) sc_fine.nd rfl (.inl rfl) (pe_call G_refused (hr.mono (by decide)) (by rfl) T.g_refused T.F_refused.kp T.b_refused .nil pass0 (pa_cons (pv 0) (pa_cons (pe_cmpR op_eq (pv 1) (pe_cmpR op_eq (pv 4) pe_int (nomark _)) (nomark _)) pa_nil))))
 (pss_one (ps_if (PW.pt (pw_or (pt_not (pt_val (pe_call G_whole (hr.mono (by decide)) (by rfl) T.g_whole T.F_whole.kp T.b_whole .nil pass0 (pa_cons (pv 5) pa_nil)))) (pw_or1 (pt_cmpR op_ne (pv 5) (pv 2) (nomark _))))) (pss_one (ps_ret pe_bl)) pss_nil))))) (psst_cons
      (PA.pst_forZ (X := (cxOf CX0 P w K mg base N_fine "_law_fine" (defScope s_fine) T.f_fine cdv A outer s H E).nox) (i := 6) PassesOwn.never rfl sc_fine.nd rfl rfl fun z => PA.psk_if (PA.ptk_not (PA.ptk_val (PA.pek_call G_split (hr.mono (by decide)) (by rfl) T.g_split T.F_split.kp T.b_split pass0 (PA.pek_repl (ik := 0) rfl (.inr (.inl rfl)) rfl)))) (pss_one (ps_ret pe_bl)) pss_nil)
      (PSsT.of (pss_one (ps_ret pe_bl)))))) (by rfl), ?_⟩
    refine Z.w_start (σ' := [some (.str (S l)), some (.bl k), none, none, none, none, none]) rfl ?_
    have e9 : (Str.ofString "\t") = S [9] := by decide +kernel
    have eT : (Str.ofString "~") = S [126] := by decide +kernel
    have eB : (Str.ofString " ") = S [32] := by decide +kernel
    have eN : (Str.ofString "\n") = S [10] := by decide +kernel
    walk_at "w"
    rw [e9]
    walk_at "w"
    by_cases h9 : 9 ∈ l
    · rw [decide_eq_true h9]
      obtain ⟨a, b, rfl, hn⟩ := cut_tab h9
      have hab : (a ++ 9 :: b).length = a.length + 1 + b.length := by simp; omega
      have hao : a.all MS.okc = true := by
        rw [List.all_append, Bool.and_eq_true] at ha
        exact no_tab ha.1 hn
      walk_at "w"
      refine ⟨by omega, by omega, fun D hD => ?_⟩
      refine lc_range (lo := 0) (n := _) (fun i H' => Same H H' ∧ ∃ ks : List Nat, H' D = some (.lst (ks.map fun k => V.int (k : Nat))) ∧ ks.length ≤ i ∧ i ≤ 1002 ∧ ((i ≤ a.length ∧ ks = []) ∨ (a.length < i ∧ ks.head? = some a.length))) ?_ ?_ ?_
      · exact ⟨same_of (Same.refl H) hD, [], upd_same, Nat.le_refl _, by omega, .inl ⟨Nat.zero_le _, rfl⟩⟩
      · rintro i H' hi ⟨sm, ks, hks, hl1, hi2, hc⟩
        have hi3 : i < a.length + 1 + b.length := by omega
        obtain ⟨c, hci⟩ : ∃ c, (a ++ 9 :: b)[i]? = some c := ⟨_, List.getElem?_eq_getElem (by omega)⟩
        have hat : atI (a ++ 9 :: b) (0 + (i : Nat)) = some c := by rw [show (0 : Int) + (i : Nat) = (i : Nat) by omega]; exact atI_nat hci
        refine Z.w_gname (σ' := [some (.str (S (a ++ 9 :: b))), some (.bl k), none, some (.int (0 + i)), none, none, none]) rfl ?_
        refine ⟨rfl, ?_⟩
        walk_at "w"
        by_cases h9c : c = 9
        · subst h9c
          rw [decide_eq_true (show [9] = [9] from rfl)]
          walk_at "w"
          refine ⟨_, hks, by rw [List.length_map]; exact Nat.lt_of_le_of_lt (show ks.length ≤ 1002 by omega) (by decide), same_mut sm hD, ks ++ [i], ?_, by rw [List.length_append]; simp; omega, by omega, ?_⟩
          · rw [upd_same, List.map_append, show (0 : Int) + (i : Nat) = (i : Nat) by omega]
            rfl
          · rcases hc with ⟨g1, rfl⟩ | ⟨g1, g2⟩
            · have g3 : ¬ i < a.length := fun z => by
                rw [List.getElem?_append_left z] at hci
                exact hn (List.mem_of_getElem? hci)
              have g4 : i = a.length := by omega
              subst g4
              exact .inr ⟨by omega, rfl⟩
            · refine .inr ⟨by omega, ?_⟩
              cases ks with
              | nil => cases g2
              | cons x xs => exact g2
        · rw [decide_eq_false (show ¬ [c] = [9] by simpa using h9c)]
          walk_at "w"
          refine ⟨sm, ks, hks, by omega, by omega, ?_⟩
          rcases hc with ⟨g1, rfl⟩ | ⟨g1, g2⟩
          · refine .inl ⟨?_, rfl⟩
            by_cases g3 : i = a.length
            · subst g3
              rw [List.getElem?_append_right (Nat.le_refl _), Nat.sub_self] at hci
              exact absurd (Option.some.inj hci).symm h9c
            · omega
          · exact .inr ⟨by omega, g2⟩
      · rintro H1 ⟨sm, ks, hks, hl1, hi2, hc⟩
        rcases hc with ⟨g1, rfl⟩ | ⟨g1, g2⟩
        · omega
        cases ks with
        | nil => cases g2
        | cons x xs =>
          have ex : x = a.length := Option.some.inj g2
          subst ex
          have hat : atI ((a.length :: xs).map fun k => V.int (k : Nat)) 0 = some (.int (a.length : Nat)) := atI_nat (j := 0) rfl
          walk_at "w"
          refine ⟨by omega, by omega, ?_⟩
          refine for_range (lo := 0) (n := _) (fun i σ H2 => Same H1 H2 ∧ ∃ (x3 x4 x5 : Option V), σ = [some (.str (S (a ++ 9 :: b))), some (.bl k), some (.int (a.length : Nat)), x3, x4, x5, none]) ?_ ?_ ?_
          · exact ⟨Same.refl _, _, _, _, rfl⟩
          · rintro i σ H2 hi ⟨s2, x3, x4, x5, rfl⟩
            walk_at "w"
            refine ⟨rfl, ?_⟩
            walk_at "w"
            refine use_refused (by omega) hao (by decide) fun H3 s3 => ?_
            walk_at "w"
            exact ⟨s2.trans s3, _, _, _, rfl⟩
          · rintro σ H2 ⟨s2, x3, x4, x5, rfl⟩
            walk_at "w"
            intro q o hq0
            refine ⟨fun k' σ H3 => Same (upd H2 q (.frz o (.lst ([Str.ofString "~", Str.ofString " ", Str.ofString "\n"].map V.str)))) H3 ∧ ∃ x6 : Option V, σ = [some (.str (S (a ++ 9 :: b))), some (.bl k), some (.int (a.length : Nat)), x3, x4, x5, x6], ⟨Same.refl _, _, rfl⟩, ?_, fun k' σ H3 p => p.1 _ _ upd_same, ?_⟩
            · rintro k' z σ H3 hz ⟨s3, x6, rfl⟩
              have hd : ∃ d, z = S [d] ∧ MS.okc d = true ∧ (S [9] == S [d]) = false := by
                rw [eT, eB, eN] at hz
                match k', hz with
                | 0, e => exact ⟨126, (Option.some.inj e).symm, by decide, by decide⟩
                | 1, e => exact ⟨32, (Option.some.inj e).symm, by decide, by decide⟩
                | 2, e => exact ⟨10, (Option.some.inj e).symm, by decide, by decide⟩
                | m + 3, e => cases e
              obtain ⟨d, rfl, hd1, hd2⟩ := hd
              walk_at "w"
              refine use_replZ e9 rfl hd2 (by omega) ?_
              walk_at "w"
              refine use_split (by rw [untab_len]; omega) (untab_ok hd1 ha) fun H4 s4 => ?_
              walk_at "w"
              exact ⟨s3.trans s4, _, rfl⟩
            · rintro σ H3 ⟨s3, x6, rfl⟩
              walk_at "w"
              exact h _ ((sm.trans s2).trans ((same_of (Same.refl H2) hq0).trans s3))
    · rw [decide_eq_false h9]
      walk_at "w"
      exact use_split (by omega) (no_tab ha h9) h
theorem use_fine {l : List Nat} {k : Bool} {H : Hp} {Q : VK} {E : XK} (hl : l.length ≤ 1002) (ha : l.all okt = true) (h : ∀ H', Same H H' → Q (.bl true) H') : spFine [.str (S l), .bl k] H Q E := ⟨l, k, rfl, hl, ha, h⟩
end
end L

namespace L
open PySem PySem.Spec PyProof.Rows L2 Z MT X2
open _root_.SX (S S_len S_cat S_inj)
section
variable {P : Program} {w : World} {K : PySem.W.Frag} {mg : Str → Option Value} {base : Heap}
def spNext (K : PySem.W.Frag) : Sp := fun vs H Q _ => ∃ (a : Addr) (ns : List Int) (q : Addr) (o : HO), vs = [.ref a, .int 2, .ref q] ∧ SqL K H a (ns.map V.int) ∧ ns.length ≤ 63 ∧ H q = some o ∧ IsPool o ∧ ∀ q' H', (H' = H ∧ q' = q) ∨ (∃ o', H q' = none ∧ IsPool o' ∧ H' = upd H q' o') → Q (.ref q') H'
theorem ok_next (T : Txt K mg) : FnOk P w K mg base CX0 2 T.f_next T.fd_next ["_law_script", "_law_k", "_law_pool_here"] (spNext K) := by
  have G_pool := ok_pool (P := P) (w := w) (base := base) T
  refine T.F_next.ok sc_next (fun vs H Q E h => ?_) (fun cdv A outer s H vs Q E hr h => ?_)
  · obtain ⟨a, ns, q, o, rfl, _⟩ := h
    rfl
  · obtain ⟨a, ns, q, o, rfl, hS, hl, ho, hp, h⟩ := h
    refine ⟨_, (pss_cons (ps_if (pt_cmpR op_lt (pv 1) (pe_callB call_len_seq (by rfl) T.m_len (by decide +kernel) (pa_cons (pv 0) pa_nil)) (nomark _)) (pss_one (ps_ret (pe_call G_pool (hr.mono (by decide)) (by rfl) T.g_pool T.F_pool.kp T.b_pool .nil pass0 (pa_cons (pv 0) (pa_cons (pv 1) pa_nil))))) pss_nil)
 (pss_one (ps_ret (pv 2)))), ?_⟩
    refine Z.w_start (σ' := [some (.ref a), some (.int 2), some (.ref q)]) rfl ?_
    walk_at "w"
    walk_at "wi"
    · walk_at "w"
      exact use_pool hS (by omega) (by omega) (by omega) fun q' o' h1 h2 => h _ _ (.inr ⟨o', h1, h2, rfl⟩)
    · walk_at "w"
      exact h _ _ (.inl ⟨rfl, rfl⟩)
theorem use_next {a : Addr} {ns : List Int} {q : Addr} {o : HO} {H : Hp} {Q : VK} {E : XK} (hS : SqL K H a (ns.map V.int)) (hl : ns.length ≤ 63) (ho : H q = some o) (hp : IsPool o) (h : ∀ q' H', (H' = H ∧ q' = q) ∨ (∃ o', H q' = none ∧ IsPool o' ∧ H' = upd H q' o') → Q (.ref q') H') : spNext K [.ref a, .int 2, .ref q] H Q E := ⟨a, ns, q, o, rfl, hS, hl, ho, hp, h⟩
def spLaw (K : PySem.W.Frag) : Sp := fun vs H Q _ => ∃ (a : Addr) (ns : List Int), vs = [.ref a] ∧ SqL K H a (ns.map V.int) ∧ ns.length ≤ 63 ∧ ∀ H', Q (.bl true) H'
theorem ok_law (T : Txt K mg) : FnOk P w K mg base CX0 6 T.f_law T.fd_law ["_law_script"] (spLaw K) := by
  have G_pool := ok_pool (P := P) (w := w) (base := base) T
  have G_take := ok_take (P := P) (w := w) (base := base) T
  have G_drawn := ok_drawn (P := P) (w := w) (base := base) T
  have G_next := ok_next (P := P) (w := w) (base := base) T
  have G_fine := ok_fine (P := P) (w := w) (base := base) T
  refine T.F_law.ok sc_law (fun vs H Q E h => ?_) (fun cdv A outer s H vs Q E hr h => ?_)
  · obtain ⟨a, ns, rfl, _⟩ := h
    rfl
  · obtain ⟨a, ns, rfl, hS, hl, h⟩ := h
    refine ⟨_, (pss_cons (ps_set (i := 1) sc_law.nd rfl (.inl rfl) (pe_call G_pool (hr.mono (by decide)) (by rfl) T.g_pool T.F_pool.kp T.b_pool .nil pass0 (pa_cons (pv 0) (pa_cons pe_int pa_nil))))
 (pss_cons (ps_set (i := 2) sc_law.nd rfl (.inl rfl) (pe_call G_drawn (hr.mono (by decide)) (by rfl) T.g_drawn T.F_drawn.kp T.b_drawn .nil pass0 (pa_cons (pv 1) pa_nil)))
 (pss_cons (ps_set (i := 3) sc_law.nd rfl (.inl rfl) (pe_cmpR op_eq (pe_call G_take (hr.mono (by decide)) (by rfl) T.g_take T.F_take.kp T.b_take .nil pass0 (pa_cons (pv 1) (pa_cons pe_int pa_nil))) pe_int (nomark _)))
 (pss_cons (ps_set (i := 4) sc_law.nd rfl (.inl rfl) (pe_call G_drawn (hr.mono (by decide)) (by rfl) T.g_drawn T.F_drawn.kp T.b_drawn .nil pass0 (pa_cons (pe_call G_next (hr.mono (by decide)) (by rfl) T.g_next T.F_next.kp T.b_next .nil pass0 (pa_cons (pv 0) (pa_cons pe_int (pa_cons (pv 1) pa_nil)))) pa_nil)))
 (pss_one (ps_ret (pe_and (pe_call G_fine (hr.mono (by decide)) (by rfl) T.g_fine T.F_fine.kp T.b_fine .nil pass0 (pa_cons (pv 2) (pa_cons (pv 3) pa_nil))) (pe_and (pe_call G_fine (hr.mono (by decide)) (by rfl) T.g_fine T.F_fine.kp T.b_fine .nil pass0 (pa_cons (pv 4) (pa_cons (pe_not (pv 3)) pa_nil))) (pe_one (pe_call G_fine (hr.mono (by decide)) (by rfl) T.g_fine T.F_fine.kp T.b_fine .nil pass0 (pa_cons (pv 2) (pa_cons (pv 3) pa_nil)))))))))))), ?_⟩
    refine Z.w_start (σ' := [some (.ref a), none, none, none, none]) rfl ?_
    walk_at "w"
    refine use_pool hS (by omega) (by omega) (by omega) fun q o hq1 hp1 => ?_
    walk_at "w"
    refine use_drawn upd_same hp1 fun l H1 hl1 ha1 d1 => ?_
    have k1 : Same H H1 := d1.same hq1
    obtain ⟨sx1, o1, ho1, hp2⟩ := d1
    walk_at "w"
    rename_i r1 o2 a1 a2 hp3
    have k2 : Same H (upd H1 q o2) := fun b x e => by
      rw [upd_ne (ne_of_none e hq1)]
      exact k1 b x e
    refine use_next (k2.seq hS) hl upd_same hp3 fun q' H2 hn => ?_
    walk_at "w"
    obtain ⟨o3, ho3, hp4, k3⟩ : ∃ o3, H2 q' = some o3 ∧ IsPool o3 ∧ True := by
      rcases hn with ⟨rfl, rfl⟩ | ⟨o', h1, h2, rfl⟩
      · exact ⟨o2, upd_same, hp3, trivial⟩
      · exact ⟨o', upd_same, h2, trivial⟩
    refine use_drawn ho3 hp4 fun l2 H3 hl2 ha2 d2 => ?_
    walk_at "w"
    refine use_fine hl1 ha1 fun H4 s4 => ?_
    walk_at "w"
    refine use_fine hl2 ha2 fun H5 s5 => ?_
    walk_at "w"
    exact use_fine hl1 ha1 fun H6 s6 => h _
end
end L

namespace X0
end X0
namespace L
open PySem PySem.Spec PyProof.Rows L2 Z X0
theorem all_mk {l : PySem.W.OpenLaw} {w : World} {K : PySem.W.Frag} {h : Heap} {mg : Str → Option Value} {fa : Addr} (X : K.In h) (G : h.Ns mainGlobals mg) (hfa : mg "law" = some (.ref fa))
    {f_scan : Addr} {od_scan an_scan : Option Addr} {sl_scan : Array (Option Value)} {oc_scan kV_scan dc_scan pm_scan cd_scan ct_scan  : Value}
    {f_pool : Addr} {od_pool an_pool : Option Addr} {sl_pool : Array (Option Value)} {oc_pool kV_pool dc_pool pm_pool cd_pool ct_pool  : Value}
    {f_take : Addr} {od_take an_take : Option Addr} {sl_take : Array (Option Value)} {oc_take kV_take dc_take pm_take cd_take ct_take  : Value}
    {f_next : Addr} {od_next an_next : Option Addr} {sl_next : Array (Option Value)} {oc_next kV_next dc_next pm_next cd_next ct_next  : Value}
    {f_whole : Addr} {od_whole an_whole : Option Addr} {sl_whole : Array (Option Value)} {oc_whole kV_whole dc_whole pm_whole cd_whole ct_whole  : Value}
    {f_menu : Addr} {od_menu an_menu : Option Addr} {sl_menu : Array (Option Value)} {oc_menu kV_menu dc_menu pm_menu cd_menu ct_menu  : Value}
    {f_drawn : Addr} {od_drawn an_drawn : Option Addr} {sl_drawn : Array (Option Value)} {oc_drawn kV_drawn dc_drawn pm_drawn cd_drawn ct_drawn  : Value}
    {f_due : Addr} {od_due an_due : Option Addr} {sl_due : Array (Option Value)} {oc_due kV_due dc_due pm_due cd_due ct_due  : Value}
    {f_split : Addr} {od_split an_split : Option Addr} {sl_split : Array (Option Value)} {oc_split kV_split dc_split pm_split cd_split ct_split  : Value}
    {f_refused : Addr} {od_refused an_refused : Option Addr} {sl_refused : Array (Option Value)} {oc_refused kV_refused dc_refused pm_refused cd_refused ct_refused  : Value}
    {f_fine : Addr} {od_fine an_fine : Option Addr} {sl_fine : Array (Option Value)} {oc_fine kV_fine dc_fine pm_fine cd_fine ct_fine  : Value}
    {f_law : Addr} {od_law an_law : Option Addr} {sl_law : Array (Option Value)} {oc_law kV_law dc_law pm_law cd_law ct_law  : Value}
    {C_BadText : Addr}
    {C_PaperError : Addr}
    {C_UnknownName : Addr}
    {C_NameTaken : Addr}
    {C_BadSort : Addr}
    {nm_BadText q_BadText : Str} {N_BadText : Addr} {bs_BadText : List Value} {sn_BadText : List Str} {sub_BadText : List Value} {ab_BadText : Bool} {col_BadText : Option Bool} {dd_BadText : Option Addr} {m0_BadText m1_BadText m2_BadText m3_BadText m5_BadText : Option Value}
    {f_BadText_init : Addr} {od_BadText_init an_BadText_init : Option Addr} {sl_BadText_init : Array (Option Value)} {oc_BadText_init kV_BadText_init dc_BadText_init pm_BadText_init cd_BadText_init ct_BadText_init : Value}
    (a_scan : PySem.W.nsIn K mainGlobals "scan" = some (some (.ref f_scan)))
    (l_scan : K.lookup f_scan = some ⟨oc_scan, od_scan, .func (PySem.W.fnOf "scan" "scan" (defArgs s_scan) (defBody s_scan) (defScope s_scan) .none kV_scan dc_scan pm_scan an_scan cd_scan ct_scan), sl_scan⟩)
    (c_scan : PySem.W.codeIn K cd_scan "scan" = true)
    (k_scan : PySem.W.keepIn K (.ref f_scan) = true)
    (a_pool : PySem.W.nsIn K mainGlobals "_law_pool" = some (some (.ref f_pool)))
    (l_pool : K.lookup f_pool = some ⟨oc_pool, od_pool, .func (PySem.W.fnOf "_law_pool" "_law_pool" (defArgs s_pool) (defBody s_pool) (defScope s_pool) .none kV_pool dc_pool pm_pool an_pool cd_pool ct_pool), sl_pool⟩)
    (c_pool : PySem.W.codeIn K cd_pool "_law_pool" = true)
    (k_pool : PySem.W.keepIn K (.ref f_pool) = true)
    (a_take : PySem.W.nsIn K mainGlobals "_law_take" = some (some (.ref f_take)))
    (l_take : K.lookup f_take = some ⟨oc_take, od_take, .func (PySem.W.fnOf "_law_take" "_law_take" (defArgs s_take) (defBody s_take) (defScope s_take) .none kV_take dc_take pm_take an_take cd_take ct_take), sl_take⟩)
    (c_take : PySem.W.codeIn K cd_take "_law_take" = true)
    (k_take : PySem.W.keepIn K (.ref f_take) = true)
    (a_next : PySem.W.nsIn K mainGlobals "_law_next" = some (some (.ref f_next)))
    (l_next : K.lookup f_next = some ⟨oc_next, od_next, .func (PySem.W.fnOf "_law_next" "_law_next" (defArgs s_next) (defBody s_next) (defScope s_next) .none kV_next dc_next pm_next an_next cd_next ct_next), sl_next⟩)
    (c_next : PySem.W.codeIn K cd_next "_law_next" = true)
    (k_next : PySem.W.keepIn K (.ref f_next) = true)
    (a_whole : PySem.W.nsIn K mainGlobals "_law_whole" = some (some (.ref f_whole)))
    (l_whole : K.lookup f_whole = some ⟨oc_whole, od_whole, .func (PySem.W.fnOf "_law_whole" "_law_whole" (defArgs s_whole) (defBody s_whole) (defScope s_whole) .none kV_whole dc_whole pm_whole an_whole cd_whole ct_whole), sl_whole⟩)
    (c_whole : PySem.W.codeIn K cd_whole "_law_whole" = true)
    (k_whole : PySem.W.keepIn K (.ref f_whole) = true)
    (a_menu : PySem.W.nsIn K mainGlobals "_law_menu" = some (some (.ref f_menu)))
    (l_menu : K.lookup f_menu = some ⟨oc_menu, od_menu, .func (PySem.W.fnOf "_law_menu" "_law_menu" (defArgs s_menu) (defBody s_menu) (defScope s_menu) .none kV_menu dc_menu pm_menu an_menu cd_menu ct_menu), sl_menu⟩)
    (c_menu : PySem.W.codeIn K cd_menu "_law_menu" = true)
    (k_menu : PySem.W.keepIn K (.ref f_menu) = true)
    (a_drawn : PySem.W.nsIn K mainGlobals "_law_drawn" = some (some (.ref f_drawn)))
    (l_drawn : K.lookup f_drawn = some ⟨oc_drawn, od_drawn, .func (PySem.W.fnOf "_law_drawn" "_law_drawn" (defArgs s_drawn) (defBody s_drawn) (defScope s_drawn) .none kV_drawn dc_drawn pm_drawn an_drawn cd_drawn ct_drawn), sl_drawn⟩)
    (c_drawn : PySem.W.codeIn K cd_drawn "_law_drawn" = true)
    (k_drawn : PySem.W.keepIn K (.ref f_drawn) = true)
    (a_due : PySem.W.nsIn K mainGlobals "_law_due" = some (some (.ref f_due)))
    (l_due : K.lookup f_due = some ⟨oc_due, od_due, .func (PySem.W.fnOf "_law_due" "_law_due" (defArgs s_due) (defBody s_due) (defScope s_due) .none kV_due dc_due pm_due an_due cd_due ct_due), sl_due⟩)
    (c_due : PySem.W.codeIn K cd_due "_law_due" = true)
    (k_due : PySem.W.keepIn K (.ref f_due) = true)
    (a_split : PySem.W.nsIn K mainGlobals "_law_split" = some (some (.ref f_split)))
    (l_split : K.lookup f_split = some ⟨oc_split, od_split, .func (PySem.W.fnOf "_law_split" "_law_split" (defArgs s_split) (defBody s_split) (defScope s_split) .none kV_split dc_split pm_split an_split cd_split ct_split), sl_split⟩)
    (c_split : PySem.W.codeIn K cd_split "_law_split" = true)
    (k_split : PySem.W.keepIn K (.ref f_split) = true)
    (a_refused : PySem.W.nsIn K mainGlobals "_law_refused" = some (some (.ref f_refused)))
    (l_refused : K.lookup f_refused = some ⟨oc_refused, od_refused, .func (PySem.W.fnOf "_law_refused" "_law_refused" (defArgs s_refused) (defBody s_refused) (defScope s_refused) .none kV_refused dc_refused pm_refused an_refused cd_refused ct_refused), sl_refused⟩)
    (c_refused : PySem.W.codeIn K cd_refused "_law_refused" = true)
    (k_refused : PySem.W.keepIn K (.ref f_refused) = true)
    (a_fine : PySem.W.nsIn K mainGlobals "_law_fine" = some (some (.ref f_fine)))
    (l_fine : K.lookup f_fine = some ⟨oc_fine, od_fine, .func (PySem.W.fnOf "_law_fine" "_law_fine" (defArgs s_fine) (defBody s_fine) (defScope s_fine) .none kV_fine dc_fine pm_fine an_fine cd_fine ct_fine), sl_fine⟩)
    (c_fine : PySem.W.codeIn K cd_fine "_law_fine" = true)
    (k_fine : PySem.W.keepIn K (.ref f_fine) = true)
    (a_law : PySem.W.nsIn K mainGlobals "law" = some (some (.ref f_law)))
    (l_law : K.lookup f_law = some ⟨oc_law, od_law, .func (PySem.W.fnOf "law" "law" (defArgs s_law) (defBody s_law) (defScope s_law) .none kV_law dc_law pm_law an_law cd_law ct_law), sl_law⟩)
    (c_law : PySem.W.codeIn K cd_law "law" = true)
    (k_law : PySem.W.keepIn K (.ref f_law) = true)
    (m_len : PySem.W.nsIn K mainGlobals "len" = some none)
    (m_int : PySem.W.nsIn K mainGlobals "int" = some none)
    (m_isinstance : PySem.W.nsIn K mainGlobals "isinstance" = some none)
    (m_range : PySem.W.nsIn K mainGlobals "range" = some none)
    (m_bool : PySem.W.nsIn K mainGlobals "bool" = some none)
    (m_str : PySem.W.nsIn K mainGlobals "str" = some none)
    (m_list : PySem.W.nsIn K mainGlobals "list" = some none)
    (m_tuple : PySem.W.nsIn K mainGlobals "tuple" = some none)
    (m_enumerate : PySem.W.nsIn K mainGlobals "enumerate" = some none)
    (m_reversed : PySem.W.nsIn K mainGlobals "reversed" = some none)
    (m_ValueError : PySem.W.nsIn K mainGlobals "ValueError" = some none)
    (n_BadText : PySem.W.nsIn K mainGlobals "BadText" = some (some (.ref C_BadText)))
    (n_PaperError : PySem.W.nsIn K mainGlobals "PaperError" = some (some (.ref C_PaperError)))
    (n_UnknownName : PySem.W.nsIn K mainGlobals "UnknownName" = some (some (.ref C_UnknownName)))
    (n_NameTaken : PySem.W.nsIn K mainGlobals "NameTaken" = some (some (.ref C_NameTaken)))
    (n_BadSort : PySem.W.nsIn K mainGlobals "BadSort" = some (some (.ref C_BadSort)))
    (a_BadText_init : PySem.W.findIn K (.ref C_BadText) "__init__" = some (some (.ref f_BadText_init)))
    (i_BadText_init : PySem.W.typeIn K (.ref f_BadText_init) = some (.type "function"))
    (l_BadText_init : K.lookup f_BadText_init = some ⟨oc_BadText_init, od_BadText_init, .func (PySem.W.fnOf "__init__" "BadText.__init__" (defArgs s_BadText_init) (defBody s_BadText_init) (defScope s_BadText_init) .none kV_BadText_init dc_BadText_init pm_BadText_init an_BadText_init cd_BadText_init ct_BadText_init), sl_BadText_init⟩)
    (c_BadText_init : PySem.W.codeIn K cd_BadText_init "BadText.__init__" = true)
    (k_BadText_init : PySem.W.keepIn K (.ref f_BadText_init) = true)
    (rd_PaperError : PySem.W.readsIn K C_PaperError (.type "type") = true)
    (ga_PaperError : PySem.W.specialIn K (.ref C_PaperError) "__getattribute__" = some (some (.builtin "type.__getattribute__")))
    (vi_PaperError : PySem.W.findCls K (.ref C_PaperError) (.type "type") "__init__" = some (.val (.builtin "ValueError.__init__")))
    (xL_BadText : K.lookup C_BadText = some (excClassObj nm_BadText q_BadText C_BadText N_BadText bs_BadText [.ref C_PaperError, .type "ValueError", .type "Exception", .type "BaseException", .type "object"] true sn_BadText sub_BadText ab_BadText col_BadText dd_BadText m0_BadText m1_BadText m2_BadText m3_BadText m5_BadText "ValueError.__new__"))
    (sa_BadText : PySem.W.findIn K (.ref C_BadText) "__setattr__" = some (some (.builtin "object.__setattr__")))
    (eC_BadText : PySem.W.subIn K (.ref C_BadText) (.type "BaseException") = some true)
    (tC_BadText : PySem.W.typeIn K (.ref C_BadText) = some (.type "type"))
    (kC_BadText : PySem.W.keepIn K (.ref C_BadText) = true)
    (hg_BadText : PySem.W.findIn K (.ref C_BadText) "__getattribute__" = some (some (.builtin "BaseException.__getattribute__")))
    (hk_BadText : PySem.W.findIn K (.ref C_BadText) "__getattr__" = some none)
    (hd_BadText : PySem.W.hasDictIn K C_BadText = true)
    (ha_BadText : PySem.W.findIn K (.ref C_BadText) "__class__" = some (some (.builtin "object.__class__")))
    (hm_BadText : PySem.W.mroIn K C_BadText (.type "object") = some true)
    (no_BadText : PySem.W.findIn K (.ref C_BadText) "place" = some none)
    (x_hn : PySem.W.specialIn K (.builtin "object.__class__") "__get__" = some (some (.builtin "getset_descriptor.__get__")))
    (x_ht : PySem.W.takesIn K (.builtin "object.__class__") = some true)
    (e_BadText_BadText : PySem.W.exmOne K (.ref C_BadText) (.ref C_BadText) = some true)
    (e_BadText_PaperError : PySem.W.exmOne K (.ref C_BadText) (.ref C_PaperError) = some true)
    (k_BadText_UnknownName : PySem.W.kitOne K (.ref C_BadText) (.ref C_UnknownName) = some false)
    (k_BadText_NameTaken : PySem.W.kitOne K (.ref C_BadText) (.ref C_NameTaken) = some false)
    (k_BadText_BadSort : PySem.W.kitOne K (.ref C_BadText) (.ref C_BadSort) = some false)
    (k_BadText_BadText : PySem.W.kitOne K (.ref C_BadText) (.ref C_BadText) = some true)
    (k_BadText_ValueError : PySem.W.kitOne K (.ref C_BadText) (.type "ValueError") = some true) :
    ∃ fd : FuncData, (∀ (s : Shared) (v : Value), BindsTo s fd ⟨[v], []⟩ [("_law_script", v)]) ∧ ∀ base : Heap, K.In base → base.Ns mainGlobals mg → FnOk l.prog w K mg base CX0 6 fa fd ["_law_script"] (spLaw K) := by
  have e := hfa.symm.trans (PySem.W.mg_of X G a_law)
  have e2 : f_law = fa := by
    cases e
    rfl
  subst e2
  let T : Txt K mg := {
    f_scan := f_scan, fd_scan := _, F_scan := fun_mk (st := s_scan) l_scan c_scan k_scan, b_scan := (fun_mk (st := s_scan) l_scan c_scan k_scan).binds (ps := ["text"]) fun _ _ _ _ _ _ us hl => match us, hl with | [_], _ => rfl, g_scan := PySem.W.mg_of X G a_scan,
    f_pool := f_pool, fd_pool := _, F_pool := fun_mk (st := s_pool) l_pool c_pool k_pool, b_pool := (fun_mk (st := s_pool) l_pool c_pool k_pool).binds (ps := ["_law_script", "_law_k"]) fun _ _ _ _ _ _ us hl => match us, hl with | [_, _], _ => rfl, g_pool := PySem.W.mg_of X G a_pool,
    f_take := f_take, fd_take := _, F_take := fun_mk (st := s_take) l_take c_take k_take, b_take := (fun_mk (st := s_take) l_take c_take k_take).binds (ps := ["_law_pool_here", "_law_size"]) fun _ _ _ _ _ _ us hl => match us, hl with | [_, _], _ => rfl, g_take := PySem.W.mg_of X G a_take,
    f_next := f_next, fd_next := _, F_next := fun_mk (st := s_next) l_next c_next k_next, b_next := (fun_mk (st := s_next) l_next c_next k_next).binds (ps := ["_law_script", "_law_k", "_law_pool_here"]) fun _ _ _ _ _ _ us hl => match us, hl with | [_, _, _], _ => rfl, g_next := PySem.W.mg_of X G a_next,
    f_whole := f_whole, fd_whole := _, F_whole := fun_mk (st := s_whole) l_whole c_whole k_whole, b_whole := (fun_mk (st := s_whole) l_whole c_whole k_whole).binds (ps := ["_law_value"]) fun _ _ _ _ _ _ us hl => match us, hl with | [_], _ => rfl, g_whole := PySem.W.mg_of X G a_whole,
    f_menu := f_menu, fd_menu := _, F_menu := fun_mk (st := s_menu) l_menu c_menu k_menu, b_menu := (fun_mk (st := s_menu) l_menu c_menu k_menu).binds (ps := ["_law_way"]) fun _ _ _ _ _ _ us hl => match us, hl with | [_], _ => rfl, g_menu := PySem.W.mg_of X G a_menu,
    f_drawn := f_drawn, fd_drawn := _, F_drawn := fun_mk (st := s_drawn) l_drawn c_drawn k_drawn, b_drawn := (fun_mk (st := s_drawn) l_drawn c_drawn k_drawn).binds (ps := ["_law_pool_here"]) fun _ _ _ _ _ _ us hl => match us, hl with | [_], _ => rfl, g_drawn := PySem.W.mg_of X G a_drawn,
    f_due := f_due, fd_due := _, F_due := fun_mk (st := s_due) l_due c_due k_due, b_due := (fun_mk (st := s_due) l_due c_due k_due).binds (ps := ["_law_text"]) fun _ _ _ _ _ _ us hl => match us, hl with | [_], _ => rfl, g_due := PySem.W.mg_of X G a_due,
    f_split := f_split, fd_split := _, F_split := fun_mk (st := s_split) l_split c_split k_split, b_split := (fun_mk (st := s_split) l_split c_split k_split).binds (ps := ["_law_text"]) fun _ _ _ _ _ _ us hl => match us, hl with | [_], _ => rfl, g_split := PySem.W.mg_of X G a_split,
    f_refused := f_refused, fd_refused := _, F_refused := fun_mk (st := s_refused) l_refused c_refused k_refused, b_refused := (fun_mk (st := s_refused) l_refused c_refused k_refused).binds (ps := ["_law_text", "_law_base"]) fun _ _ _ _ _ _ us hl => match us, hl with | [_, _], _ => rfl, g_refused := PySem.W.mg_of X G a_refused,
    f_fine := f_fine, fd_fine := _, F_fine := fun_mk (st := s_fine) l_fine c_fine k_fine, b_fine := (fun_mk (st := s_fine) l_fine c_fine k_fine).binds (ps := ["_law_text", "_law_base"]) fun _ _ _ _ _ _ us hl => match us, hl with | [_, _], _ => rfl, g_fine := PySem.W.mg_of X G a_fine,
    f_law := f_law, fd_law := _, F_law := fun_mk (st := s_law) l_law c_law k_law, b_law := (fun_mk (st := s_law) l_law c_law k_law).binds (ps := ["_law_script"]) fun _ _ _ _ _ _ us hl => match us, hl with | [_], _ => rfl, g_law := PySem.W.mg_of X G a_law,
    m_len := PySem.W.mg_none_of X G m_len,
    m_int := PySem.W.mg_none_of X G m_int,
    m_isinstance := PySem.W.mg_none_of X G m_isinstance,
    m_range := PySem.W.mg_none_of X G m_range,
    m_bool := PySem.W.mg_none_of X G m_bool,
    m_str := PySem.W.mg_none_of X G m_str,
    m_list := PySem.W.mg_none_of X G m_list,
    m_tuple := PySem.W.mg_none_of X G m_tuple,
    m_enumerate := PySem.W.mg_none_of X G m_enumerate,
    m_reversed := PySem.W.mg_none_of X G m_reversed,
    m_ValueError := PySem.W.mg_none_of X G m_ValueError,
    C_BadText := C_BadText, c_BadText := PySem.W.mg_of X G n_BadText,
    C_PaperError := C_PaperError, c_PaperError := PySem.W.mg_of X G n_PaperError,
    C_UnknownName := C_UnknownName, c_UnknownName := PySem.W.mg_of X G n_UnknownName,
    C_NameTaken := C_NameTaken, c_NameTaken := PySem.W.mg_of X G n_NameTaken,
    C_BadSort := C_BadSort, c_BadSort := PySem.W.mg_of X G n_BadSort,
    f_BadText_init := f_BadText_init, fd_BadText_init := _, F_BadText_init := fun_mk (st := s_BadText_init) l_BadText_init c_BadText_init k_BadText_init, b_BadText_init := (fun_mk (st := s_BadText_init) l_BadText_init c_BadText_init k_BadText_init).binds (ps := ["self", "place"]) fun _ _ _ _ _ _ us hl => match us, hl with | [_, _], _ => rfl,
    xb_PaperError := ⟨rd_PaperError, ga_PaperError, vi_PaperError⟩,
    xo_BadText := ⟨⟨⟨nm_BadText, q_BadText, N_BadText, bs_BadText, _, sn_BadText, sub_BadText, ab_BadText, col_BadText, dd_BadText, m0_BadText, m1_BadText, m2_BadText, m3_BadText, m5_BadText, xL_BadText, by first | (unfold PySem.HandSPX.refsVE; decide +kernel) | rfl⟩, sa_BadText, eC_BadText, tC_BadText, kC_BadText⟩, ⟨hg_BadText, hk_BadText, eC_BadText, hd_BadText, ha_BadText, x_hn, x_ht, hm_BadText⟩, no_BadText, a_BadText_init, i_BadText_init⟩,
    e_BadText_BadText := e_BadText_BadText,
    e_BadText_PaperError := e_BadText_PaperError,
    k_BadText_UnknownName := k_BadText_UnknownName,
    k_BadText_NameTaken := k_BadText_NameTaken,
    k_BadText_BadSort := k_BadText_BadSort,
    k_BadText_BadText := k_BadText_BadText,
    k_BadText_ValueError := k_BadText_ValueError }
  exact ⟨PySem.W.fnOf "law" "law" (defArgs s_law) (defBody s_law) (defScope s_law) .none kV_law dc_law pm_law an_law cd_law ct_law, fun s v => .of_eq rfl, fun base _ _ => ok_law T⟩
end L

open PySem PySem.W PyProof.Rows
set_option maxHeartbeats 0 in
theorem PySem.Challenge.cw_papersat_k09_words_and_places_holds : PySem.Challenge.rw_papersat_k09_words_and_places.Holds := by
  w_on; o_law; k_head; (case hw => w_witness2)
  k_fill
  refine L2.walk_of (l := PySem.Challenge.rw_papersat_k09_words_and_places) (n := 63) (k := 6) (x := "_law_script") (CX := fun _ => L2.CX0) (sp := fun w => L.spLaw _) rfl (by decide) rfl ⟨rfl, by decide, by decide⟩ (fun w h Y => PySem.W.kIn_of Y) ?F (fun _ _ a ns hl _ hS => ⟨a, ns, rfl, hS, hl, fun _ => rfl⟩) (fun _ _ _ _ _ h => h)
  case F =>
    intro w mg fa h KX G hmg
    refine' L.all_mk KX G hmg ?a_scan ?l_scan ?c_scan ?k_scan ?a_pool ?l_pool ?c_pool ?k_pool ?a_take ?l_take ?c_take ?k_take ?a_next ?l_next ?c_next ?k_next ?a_whole ?l_whole ?c_whole ?k_whole ?a_menu ?l_menu ?c_menu ?k_menu ?a_drawn ?l_drawn ?c_drawn ?k_drawn ?a_due ?l_due ?c_due ?k_due ?a_split ?l_split ?c_split ?k_split ?a_refused ?l_refused ?c_refused ?k_refused ?a_fine ?l_fine ?c_fine ?k_fine ?a_law ?l_law ?c_law ?k_law ?m_len ?m_int ?m_isinstance ?m_range ?m_bool ?m_str ?m_list ?m_tuple ?m_enumerate ?m_reversed ?m_ValueError ?n_BadText ?n_PaperError ?n_UnknownName ?n_NameTaken ?n_BadSort ?a_BadText_init ?i_BadText_init ?l_BadText_init ?c_BadText_init ?k_BadText_init ?rd_PaperError ?ga_PaperError ?vi_PaperError ?xL_BadText ?sa_BadText ?eC_BadText ?tC_BadText ?kC_BadText ?hg_BadText ?hk_BadText ?hd_BadText ?ha_BadText ?hm_BadText ?no_BadText ?x_hn ?x_ht ?e_BadText_BadText ?e_BadText_PaperError ?k_BadText_UnknownName ?k_BadText_NameTaken ?k_BadText_BadSort ?k_BadText_BadText ?k_BadText_ValueError
    (case a_scan => first | k_is | k_exc | rfl | kernel_rfl); (case l_scan => first | k_is | k_exc | rfl | kernel_rfl); (case c_scan => first | k_is | k_exc | rfl | kernel_rfl); (case k_scan => first | k_is | k_exc | rfl | kernel_rfl); (case a_pool => first | k_is | k_exc | rfl | kernel_rfl); (case l_pool => first | k_is | k_exc | rfl | kernel_rfl); (case c_pool => first | k_is | k_exc | rfl | kernel_rfl); (case k_pool => first | k_is | k_exc | rfl | kernel_rfl); (case a_take => first | k_is | k_exc | rfl | kernel_rfl); (case l_take => first | k_is | k_exc | rfl | kernel_rfl); (case c_take => first | k_is | k_exc | rfl | kernel_rfl); (case k_take => first | k_is | k_exc | rfl | kernel_rfl); (case a_next => first | k_is | k_exc | rfl | kernel_rfl); (case l_next => first | k_is | k_exc | rfl | kernel_rfl); (case c_next => first | k_is | k_exc | rfl | kernel_rfl); (case k_next => first | k_is | k_exc | rfl | kernel_rfl); (case a_whole => first | k_is | k_exc | rfl | kernel_rfl); (case l_whole => first | k_is | k_exc | rfl | kernel_rfl); (case c_whole => first | k_is | k_exc | rfl | kernel_rfl); (case k_whole => first | k_is | k_exc | rfl | kernel_rfl); (case a_menu => first | k_is | k_exc | rfl | kernel_rfl); (case l_menu => first | k_is | k_exc | rfl | kernel_rfl); (case c_menu => first | k_is | k_exc | rfl | kernel_rfl); (case k_menu => first | k_is | k_exc | rfl | kernel_rfl); (case a_drawn => first | k_is | k_exc | rfl | kernel_rfl); (case l_drawn => first | k_is | k_exc | rfl | kernel_rfl); (case c_drawn => first | k_is | k_exc | rfl | kernel_rfl); (case k_drawn => first | k_is | k_exc | rfl | kernel_rfl); (case a_due => first | k_is | k_exc | rfl | kernel_rfl); (case l_due => first | k_is | k_exc | rfl | kernel_rfl); (case c_due => first | k_is | k_exc | rfl | kernel_rfl); (case k_due => first | k_is | k_exc | rfl | kernel_rfl); (case a_split => first | k_is | k_exc | rfl | kernel_rfl); (case l_split => first | k_is | k_exc | rfl | kernel_rfl); (case c_split => first | k_is | k_exc | rfl | kernel_rfl); (case k_split => first | k_is | k_exc | rfl | kernel_rfl); (case a_refused => first | k_is | k_exc | rfl | kernel_rfl); (case l_refused => first | k_is | k_exc | rfl | kernel_rfl); (case c_refused => first | k_is | k_exc | rfl | kernel_rfl); (case k_refused => first | k_is | k_exc | rfl | kernel_rfl); (case a_fine => first | k_is | k_exc | rfl | kernel_rfl); (case l_fine => first | k_is | k_exc | rfl | kernel_rfl); (case c_fine => first | k_is | k_exc | rfl | kernel_rfl); (case k_fine => first | k_is | k_exc | rfl | kernel_rfl); (case a_law => first | k_is | k_exc | rfl | kernel_rfl); (case l_law => first | k_is | k_exc | rfl | kernel_rfl); (case c_law => first | k_is | k_exc | rfl | kernel_rfl); (case k_law => first | k_is | k_exc | rfl | kernel_rfl); (case m_len => first | k_is | k_exc | rfl | kernel_rfl); (case m_int => first | k_is | k_exc | rfl | kernel_rfl); (case m_isinstance => first | k_is | k_exc | rfl | kernel_rfl); (case m_range => first | k_is | k_exc | rfl | kernel_rfl); (case m_bool => first | k_is | k_exc | rfl | kernel_rfl); (case m_str => first | k_is | k_exc | rfl | kernel_rfl); (case m_list => first | k_is | k_exc | rfl | kernel_rfl); (case m_tuple => first | k_is | k_exc | rfl | kernel_rfl); (case m_enumerate => first | k_is | k_exc | rfl | kernel_rfl); (case m_reversed => first | k_is | k_exc | rfl | kernel_rfl); (case m_ValueError => first | k_is | k_exc | rfl | kernel_rfl); (case n_BadText => first | k_is | k_exc | rfl | kernel_rfl); (case n_PaperError => first | k_is | k_exc | rfl | kernel_rfl); (case n_UnknownName => first | k_is | k_exc | rfl | kernel_rfl); (case n_NameTaken => first | k_is | k_exc | rfl | kernel_rfl); (case n_BadSort => first | k_is | k_exc | rfl | kernel_rfl); (case a_BadText_init => first | k_is | k_exc | rfl | kernel_rfl); (case i_BadText_init => first | k_is | k_exc | rfl | kernel_rfl); (case l_BadText_init => first | k_is | k_exc | rfl | kernel_rfl); (case c_BadText_init => first | k_is | k_exc | rfl | kernel_rfl); (case k_BadText_init => first | k_is | k_exc | rfl | kernel_rfl); (case rd_PaperError => first | k_is | k_exc | rfl | kernel_rfl); (case ga_PaperError => first | k_is | k_exc | rfl | kernel_rfl); (case vi_PaperError => first | k_is | k_exc | rfl | kernel_rfl); (case xL_BadText => first | k_is | k_exc | rfl | kernel_rfl); (case sa_BadText => first | k_is | k_exc | rfl | kernel_rfl); (case eC_BadText => first | k_is | k_exc | rfl | kernel_rfl); (case tC_BadText => first | k_is | k_exc | rfl | kernel_rfl); (case kC_BadText => first | k_is | k_exc | rfl | kernel_rfl); (case hg_BadText => first | k_is | k_exc | rfl | kernel_rfl); (case hk_BadText => first | k_is | k_exc | rfl | kernel_rfl); (case hd_BadText => first | k_is | k_exc | rfl | kernel_rfl); (case ha_BadText => first | k_is | k_exc | rfl | kernel_rfl); (case hm_BadText => first | k_is | k_exc | rfl | kernel_rfl); (case no_BadText => first | k_is | k_exc | rfl | kernel_rfl); (case x_hn => first | k_is | k_exc | rfl | kernel_rfl); (case x_ht => first | k_is | k_exc | rfl | kernel_rfl); (case e_BadText_BadText => first | k_is | k_exc | rfl | kernel_rfl); (case e_BadText_PaperError => first | k_is | k_exc | rfl | kernel_rfl); (case k_BadText_UnknownName => first | k_is | k_exc | rfl | kernel_rfl); (case k_BadText_NameTaken => first | k_is | k_exc | rfl | kernel_rfl); (case k_BadText_BadSort => first | k_is | k_exc | rfl | kernel_rfl); (case k_BadText_BadText => first | k_is | k_exc | rfl | kernel_rfl); (case k_BadText_ValueError => first | k_is | k_exc | rfl | kernel_rfl)
#print axioms PySem.Challenge.cw_papersat_k09_words_and_places_holds
