import PyProof.Rows.All
import Wide.All
import OpenK.AllK
import Wide.FinOn
import HandS.ForMost
import HandS.ForExc
import HandS.IsInst
import HandS.Gcd
import HandS.Wide
import HandS.WideBits
import HandS.Defaults
import HandS.ExcIs
import HandS.Small
import HandS.Flow
import HandS.Evl
import HandS.DictEq
import HandS.Walk
import HandS.TupLe
import HandS.More
import HandS.ForDict
import HandS.TupAny
import KE.KDictPairs
import KE.KEqDict
import HandS.OwnIter
import HandS.IterNext
import HandS.DictComp
import HandS.RevRange
import HandS.SetKeys
import HandS.SetFor
import HandS.SortInts
import HandS.Codes
import PySem.Challenge.RW_papersat_k45_whole_ways_with_backs
set_option Elab.async false
set_option linter.all false
set_option maxRecDepth 100000
set_option maxHeartbeats 4000000
/-! ### short words for readings -/
namespace Z
open PySem PySem.Spec PyProof.Rows L2
variable {σ σ' : L2.St} {H : Hp} {Q : VK} {D : Ends} {ta tb te : TE} {t u : TS} {tt tu : TT} {g : TG} {v x y : V} {i : Nat} {K : PySem.W.Frag} {p : Addr}
theorem w_var (h : σ[i]? = some (some v)) (q : Q v H) : tVar i σ H Q := ⟨v, h, q⟩
theorem w_c (q : Q v H) : tC v σ H Q := q
theorem w_op {r : R2} (h : ta σ H fun x H1 => tb σ H1 fun y H2 => r x y H2 Q) : tOp r ta tb σ H Q := h
theorem w_un {r : V → Hp → VK → Prop} (h : ta σ H fun x H1 => r x H1 Q) : tUn r ta σ H Q := h
theorem w_rI0 {f : Int → Int → V} {a b : Int} (q : Q (f a b) H) : rI0 f (.int a) (.int b) H Q := ⟨a, b, rfl, rfl, q⟩
theorem w_rI {C : Int → Int → Prop} {f : Int → Int → V} {a b : Int} (c : C a b) (q : Q (f a b) H) : rI C f (.int a) (.int b) H Q := ⟨a, b, rfl, rfl, c, q⟩
theorem w_rU {f : Int → V} {a : Int} (q : Q (f a) H) : rU f (.int a) H Q := ⟨a, rfl, q⟩
theorem w_rEq (c : scal x y = true) (q : Q (.bl (decide (x = y))) H) : rEq x y H Q := ⟨c, q⟩
theorem w_rNe (c : scal x y = true) (q : Q (.bl (!decide (x = y))) H) : rNe x y H Q := ⟨c, q⟩
theorem w_rEqI {a b : Int} (q : Q (.bl (decide (a = b))) H) : rEq (.int a) (.int b) H Q := ⟨rfl, by
  rw [show decide (V.int a = V.int b) = decide (a = b) by simp]; exact q⟩
theorem w_rNeI {a b : Int} (q : Q (.bl (!decide (a = b))) H) : rNe (.int a) (.int b) H Q := ⟨rfl, by
  rw [show decide (V.int a = V.int b) = decide (a = b) by simp]; exact q⟩
theorem w_ixL {xs : List V} {k : Int} (h : SqL K H p xs) (a : atI xs k = some v) (q : Q v H) : rIxL K (.ref p) (.int k) H Q := ⟨p, xs, k, v, rfl, rfl, h, a, q⟩
theorem w_ixT {xs : List V} {k : Int} (h : SqT K H p xs) (a : atI xs k = some v) (q : Q v H) : rIxT K (.ref p) (.int k) H Q := ⟨p, xs, k, v, rfl, rfl, h, a, q⟩
theorem w_start (e : σ = σ') (h : t D σ' H) : t D σ H := by rw [e]; exact h
theorem w_seq (h : t { D with nx := u D } σ H) : tSeq t u D σ H := h
theorem w_next (h : D.nx σ H) : tNext D σ H := h
theorem w_break (h : D.bk σ H) : tBreak D σ H := h
theorem w_cont (h : D.ct σ H) : tCont D σ H := h
theorem w_drop (h : te σ H fun _ H1 => D.nx σ H1) : tDrop te D σ H := h
theorem w_ret (h : te σ H D.rt) : tRet te D σ H := h
theorem w_asg (h : te σ H fun x H1 => g x σ H1 D.nx) : tAsg te g D σ H := h
theorem w_gname {R : L2.St → Hp → Prop} (e : σ.set i (some v) = σ') (h : R σ' H) : gName i v σ H R := by rw [← e] at h; exact h
theorem w_ifs (h : tt σ H fun b H1 => if b = true then t D σ H1 else u D σ H1) : tIfS tt t u D σ H := h
theorem w_test {R : Bool → Hp → Prop} (h : te σ H fun x H1 => ∃ k, x = .bl k ∧ R k H1) : tTest te σ H R := h
theorem w_B {R : Bool → Hp → Prop} (h : te σ H fun x H1 => ∃ k, x = .bl k ∧ R k H1) : tB te σ H R := h
theorem w_bl {k : Bool} {R : Bool → Prop} (h : R k) : ∃ c, V.bl k = V.bl c ∧ R c := ⟨k, rfl, h⟩
theorem w_tand {R : Bool → Hp → Prop} (h : tt σ H fun c H1 => if c = true then tu σ H1 R else R false H1) : tAnd tt tu σ H R := h
theorem w_tor {R : Bool → Hp → Prop} (h : tt σ H fun c H1 => if c = true then R true H1 else tu σ H1 R) : tOr tt tu σ H R := h
theorem w_tnot {R : Bool → Hp → Prop} (h : tt σ H fun c H1 => R (!c) H1) : tNot tt σ H R := h
theorem w_andV (h : ta σ H fun x H1 => ∃ c, x = .bl c ∧ if c = true then tb σ H1 Q else Q (.bl false) H1) : tAndV ta tb σ H Q := h
theorem w_orV (h : ta σ H fun x H1 => ∃ c, x = .bl c ∧ if c = true then Q (.bl true) H1 else tb σ H1 Q) : tOrV ta tb σ H Q := h
theorem w_notV (h : ta σ H fun x H1 => ∃ c, x = .bl c ∧ Q (.bl (!c)) H1) : tNotV ta σ H Q := h
theorem w_ifV (h : tt σ H fun c H1 => if c = true then ta σ H1 Q else tb σ H1 Q) : tIf tt ta tb σ H Q := h
theorem w_nil {R : List V → Hp → Prop} (h : R [] H) : tNil σ H R := h
theorem w_cons {tr : TA} {R : List V → Hp → Prop} (h : ta σ H fun x H1 => tr σ H1 fun xs H2 => R (x :: xs) H2) : tCons ta tr σ H R := h
theorem w_cb {r : List V → Hp → VK → Prop} {tl : TA} (h : tl σ H fun vs H1 => r vs H1 Q) : tCB r tl σ H Q := h
theorem w_call {sp : Sp} {dvs : List V} {E : XK} {tl : TA} (h : tl σ H fun vs H1 => sp (vs ++ dvs) H1 Q E) : tCall sp dvs E tl σ H Q := h
theorem w_call0 {sp : Sp} {E : XK} {tl : TA} (h : tl σ H fun vs H1 => sp vs H1 Q E) : tCall sp [] E tl σ H Q := by
  unfold tCall
  simp only [List.append_nil]
  exact h
theorem w_tup {tl : TA} (h : tl σ H fun xs H1 => xs.length ≤ sizeLine ∧ ∀ p, H1 p = none → Q (.ref p) (upd H1 p (.tup xs))) : tTup tl σ H Q := h
theorem w_lst {tl : TA} (h : tl σ H fun xs H1 => xs.length ≤ sizeLine ∧ ∀ p, H1 p = none → Q (.ref p) (upd H1 p (.lst xs))) : tLst tl σ H Q := h
def par2 (a b : Nat) (vs : List V) (σ : L2.St) (H : Hp) (R : L2.St → Hp → Prop) : Prop := ∃ v w, vs = [v, w] ∧ R ((σ.set a (some v)).set b (some w)) H
theorem w_par {a b : Nat} {tl : TA} (h : tl σ H fun vs H1 => par2 a b vs σ H1 D.nx) : tPar a b tl D σ H := h
theorem w_par2 {a b : Nat} {v w : V} {R : L2.St → Hp → Prop} (e : (σ.set a (some v)).set b (some w) = σ') (h : R σ' H) : par2 a b [v, w] σ H R := ⟨v, w, rfl, by rw [e]; exact h⟩
theorem w_gtup {n : Nat} {gs : TGs} {xs : List V} {R : L2.St → Hp → Prop} (h : SqT K H p xs) (l : xs.length = n) (q : gs xs σ H R) : gTup K n gs (.ref p) σ H R := ⟨p, xs, rfl, h, l, q⟩
theorem w_gcons {gs : TGs} {vs : List V} {R : L2.St → Hp → Prop} (h : g v σ H fun σ' H' => gs vs σ' H' R) : gCons g gs (v :: vs) σ H R := ⟨v, vs, rfl, h⟩
theorem w_gnil {R : L2.St → Hp → Prop} (h : R σ H) : gNil [] σ H R := ⟨rfl, h⟩
theorem w_gsub {to ti : TE} {ts : TSet} {R : L2.St → Hp → Prop} (h : to σ H fun o H1 => ti σ H1 fun i H2 => ts o i v H2 fun H3 => R σ H3) : gSub to ti ts v σ H R := h
theorem w_setL {xs : List V} {k : Int} {j : Nat} {R : Hp → Prop} (h : H p = some (.lst xs)) (e : ixN xs.length k = some j) (q : R (upd H p (.lst (xs.set j v)))) : rSetL (.ref p) (.int k) v H R := ⟨p, xs, k, j, rfl, rfl, h, e, q⟩
theorem w_rng1 {tl : TA} {R : It → Hp → Prop} (h : tl σ H fun vs H1 => ∃ j : Int, vs = [.int j] ∧ -(2 ^ 62) ≤ j ∧ j < 2 ^ 62 ∧ R (Itr 0 j.toNat) H1) : iRng1 tl σ H R := h
theorem w_rng1' {j : Int} {R : It → Prop} (h1 : -(2 ^ 62) ≤ j) (h2 : j < 2 ^ 62) (h : R (Itr 0 j.toNat)) : ∃ k : Int, [V.int j] = [.int k] ∧ -(2 ^ 62) ≤ k ∧ k < 2 ^ 62 ∧ R (Itr 0 k.toNat) := ⟨j, rfl, h1, h2, h⟩
theorem w_for {wi : TI} {tb' : TS} (h : wi σ H fun J H1 => ∃ W : Nat → Nat → L2.St → Hp → Prop, (∃ m, W 0 m σ H1) ∧ ∀ i m σ H, W i m σ H →
  (J.stop i H ∧ D.nx σ H) ∨ (J.go i H ∧ ∃ N : L2.St → Hp → Prop, (∀ σ' H', N σ' H' → ∃ m', m' < m ∧ W (i + 1) m' σ' H') ∧ ∀ x H', J.yld i H x H' → g x σ H' fun σ2 H2 => tb' { D with nx := N, ct := N, bk := D.nx } σ2 H2)) : tFor wi g tb' D σ H := h
theorem w_bits (h : te σ H fun x H1 => ∃ i, x = .int i ∧ Q (.int (Builtin.Int.intBits i : Nat)) H1) : tBits te σ H Q := h
theorem w_ex1 {a : Int} {R : Int → Prop} (h : R a) : ∃ i, V.int a = V.int i ∧ R i := ⟨a, rfl, h⟩
theorem w_exl {xs : List V} {R : List V → Prop} (h : R xs) : ∃ ys, xs = ys ∧ R ys := ⟨xs, rfl, h⟩
theorem sz4 {n : Nat} (h : n ≤ 1000) : n ≤ sizeLine := Nat.le_trans h (by decide)
theorem w_ixH {xs : List V} {k : Int} (h : H p = some (.lst xs)) (a : atI xs k = some v) (q : Q v H) : rIxL K (.ref p) (.int k) H Q := ⟨p, xs, k, v, rfl, rfl, .inl (.inl h), a, q⟩
theorem w_ixTH {xs : List V} {k : Int} (h : H p = some (.tup xs)) (a : atI xs k = some v) (q : Q v H) : rIxT K (.ref p) (.int k) H Q := ⟨p, xs, k, v, rfl, rfl, .inl (.inl h), a, q⟩
theorem w_gtupH {n : Nat} {gs : TGs} {xs : List V} {R : L2.St → Hp → Prop} (h : H p = some (.tup xs)) (l : xs.length = n) (q : gs xs σ H R) : gTup K n gs (.ref p) σ H R := ⟨p, xs, rfl, .inl (.inl h), l, q⟩
theorem w_setLu {xs ys : List V} {k : Int} {j : Nat} {R : Hp → Prop} {H0 : Hp} (e : ixN xs.length k = some j) (e2 : xs.set j v = ys) (q : R (upd H0 p (.lst ys))) : rSetL (.ref p) (.int k) v (upd H0 p (.lst xs)) R := ⟨p, xs, k, j, rfl, rfl, upd_same, e, by rw [upd_upd, e2]; exact q⟩
theorem w_setLh {xs ys : List V} {k : Int} {j : Nat} {R : Hp → Prop} (h : H p = some (.lst xs)) (e : ixN xs.length k = some j) (e2 : xs.set j v = ys) (q : R (upd H p (.lst ys))) : rSetL (.ref p) (.int k) v H R := ⟨p, xs, k, j, rfl, rfl, h, e, by rw [e2]; exact q⟩
theorem w_lenL {xs : List V} {R : V → Prop} (h : SqL K H p xs) (q : R (.int xs.length)) : ∃ a ys, [V.ref p] = [.ref a] ∧ (SqL K H a ys ∨ SqT K H a ys) ∧ R (.int ys.length) := ⟨p, xs, rfl, .inl h, q⟩
theorem w_lenT {xs : List V} {R : V → Prop} (h : SqT K H p xs) (q : R (.int xs.length)) : ∃ a ys, [V.ref p] = [.ref a] ∧ (SqL K H a ys ∨ SqT K H a ys) ∧ R (.int ys.length) := ⟨p, xs, rfl, .inr h, q⟩
theorem upd_skip {a b : Addr} {o : HO} {u : Option HO} (h : a ≠ b) (e : H a = u) : (upd H b o) a = u := by rw [upd_ne h]; exact e
section
variable {c A B : Prop} [Decidable c]
theorem w_ite (h1 : c → A) (h2 : ¬ c → B) : if decide c = true then A else B := by
  by_cases h : c
  · rw [if_pos (decide_eq_true h)]; exact h1 h
  · rw [if_neg (fun z => h (of_decide_eq_true z))]; exact h2 h
theorem w_iteN (h1 : ¬ c → A) (h2 : c → B) : if (!decide c) = true then A else B := by
  by_cases h : c
  · rw [decide_eq_true h]; exact h2 h
  · rw [decide_eq_false h]; exact h1 h
theorem w_iteT (h : c) (q : A) : if decide c = true then A else B := by rw [if_pos (decide_eq_true h)]; exact q
theorem w_iteF (h : ¬ c) (q : B) : if decide c = true then A else B := by rw [if_neg (fun z => h (of_decide_eq_true z))]; exact q
theorem w_iteNT (h : ¬ c) (q : A) : if (!decide c) = true then A else B := by rw [decide_eq_false h]; exact q
theorem w_iteNF (h : c) (q : B) : if (!decide c) = true then A else B := by rw [decide_eq_true h]; exact q
theorem w_iteb {k : Bool} (h1 : k = true → A) (h2 : k = false → B) : if k = true then A else B := by
  cases k with
  | true => exact h1 rfl
  | false => exact h2 rfl
theorem w_ibT (q : A) : if true = true then A else B := q
theorem w_ibF (q : B) : if false = true then A else B := q
theorem w_ibNT (q : A) : if (!false) = true then A else B := q
theorem w_ibNF (q : B) : if (!true) = true then A else B := q
end
theorem upd_fresh {a b : Addr} {o : HO} (h : H a = none) (h' : H b = some o) {u : HO} (hu : upd H b u a = none) : True := trivial
theorem fresh_of {a b : Addr} {u : HO} (h : (upd H b u) a = none) : a ≠ b ∧ H a = none := by
  by_cases e : a = b
  · subst e; rw [upd_same] at h; cases h
  · rw [upd_ne e] at h; exact ⟨e, h⟩
theorem pick {ns : List Int} {k : Int} (h0 : 0 ≤ k) (h : k < ns.length) : ∃ z, atI (ns.map V.int) k = some (.int z) ∧ z ∈ ns := by
  obtain ⟨j, rfl⟩ := Int.eq_ofNat_of_zero_le h0
  have hj : j < ns.length := by omega
  refine ⟨ns[j], atI_nat (j := j) ?_, List.getElem_mem hj⟩
  rw [List.getElem?_map, List.getElem?_eq_getElem hj]
  rfl
theorem w_isi {c x : V} {ty u : Value} {b : Bool} (hc : ClsV c u) (ht : TyX K H x ty) (e : PySem.W.kitOne K ty u = some b) (q : Q (.bl b) H) : rIsi K [x, c] H Q := ⟨x, c, ty, u, b, rfl, hc, ht, e, q⟩
theorem w_isi_ii {a : Int} (q : Q (.bl true) H) : rIsi K [.int a, .ty "int"] H Q := w_isi (.ty _) (.base (.int _)) (kit_ty (by decide +kernel)) q
theorem w_isi_ib {a : Int} (q : Q (.bl false) H) : rIsi K [.int a, .ty "bool"] H Q := w_isi (.ty _) (.base (.int _)) (kit_ty (by decide +kernel)) q
theorem w_isi_bb {a : Bool} (q : Q (.bl true) H) : rIsi K [.bl a, .ty "bool"] H Q := w_isi (.ty _) (.base (.bl _)) (kit_ty (by decide +kernel)) q
theorem w_isi_bi {a : Bool} (q : Q (.bl true) H) : rIsi K [.bl a, .ty "int"] H Q := w_isi (.ty _) (.base (.bl _)) (kit_ty (by decide +kernel)) q
theorem w_isi_ss {a : Str} (q : Q (.bl true) H) : rIsi K [.str a, .ty "str"] H Q := w_isi (.ty _) (.base (.str _)) (kit_ty (by decide +kernel)) q
theorem w_isi_is {a : Int} (q : Q (.bl false) H) : rIsi K [.int a, .ty "str"] H Q := w_isi (.ty _) (.base (.int _)) (kit_ty (by decide +kernel)) q
theorem w_isi_tt {xs : List V} (h : H p = some (.tup xs)) (q : Q (.bl true) H) : rIsi K [.ref p, .ty "tuple"] H Q := w_isi (.ty _) (.base (.tup h)) (kit_ty (by decide +kernel)) q
theorem w_isi_tl {xs : List V} (h : H p = some (.tup xs)) (q : Q (.bl false) H) : rIsi K [.ref p, .ty "list"] H Q := w_isi (.ty _) (.base (.tup h)) (kit_ty (by decide +kernel)) q
theorem w_isi_ll {xs : List V} (h : H p = some (.lst xs)) (q : Q (.bl true) H) : rIsi K [.ref p, .ty "list"] H Q := w_isi (.ty _) (.base (.lst h)) (kit_ty (by decide +kernel)) q
theorem w_isi_lt {xs : List V} (h : H p = some (.lst xs)) (q : Q (.bl false) H) : rIsi K [.ref p, .ty "tuple"] H Q := w_isi (.ty _) (.base (.lst h)) (kit_ty (by decide +kernel)) q
theorem w_isi_ti {xs : List V} (h : H p = some (.tup xs)) (q : Q (.bl false) H) : rIsi K [.ref p, .ty "int"] H Q := w_isi (.ty _) (.base (.tup h)) (kit_ty (by decide +kernel)) q
theorem w_isi_tb {xs : List V} (h : H p = some (.tup xs)) (q : Q (.bl false) H) : rIsi K [.ref p, .ty "bool"] H Q := w_isi (.ty _) (.base (.tup h)) (kit_ty (by decide +kernel)) q
theorem w_isi_ts {xs : List V} (h : H p = some (.tup xs)) (q : Q (.bl false) H) : rIsi K [.ref p, .ty "str"] H Q := w_isi (.ty _) (.base (.tup h)) (kit_ty (by decide +kernel)) q
theorem w_isi_li {xs : List V} (h : H p = some (.lst xs)) (q : Q (.bl false) H) : rIsi K [.ref p, .ty "int"] H Q := w_isi (.ty _) (.base (.lst h)) (kit_ty (by decide +kernel)) q
theorem w_isi_lb {xs : List V} (h : H p = some (.lst xs)) (q : Q (.bl false) H) : rIsi K [.ref p, .ty "bool"] H Q := w_isi (.ty _) (.base (.lst h)) (kit_ty (by decide +kernel)) q
theorem w_isi_ls {xs : List V} (h : H p = some (.lst xs)) (q : Q (.bl false) H) : rIsi K [.ref p, .ty "str"] H Q := w_isi (.ty _) (.base (.lst h)) (kit_ty (by decide +kernel)) q
theorem w_gcd {a b : Int} (q : Q (.int (Nat.gcd a.natAbs b.natAbs : Nat)) H) : rGcd [.int a, .int b] H Q := ⟨a, b, rfl, q⟩
theorem w_callN {n m : Nat} {sp : Sp} {gV : List V → List V → List V} {E : XK} {t1 t2 : TA} (h : t1 σ H fun vs H1 => t2 σ H1 fun zs H2 => vs.length = n ∧ zs.length = m ∧ sp (gV vs zs) H2 Q E) : tCallN n m sp gV E t1 t2 σ H Q := h
theorem w_callS {sp : Sp} {E : L2.St → XK} {t1 : TA} (h : t1 σ H fun vs H1 => sp vs H1 Q (E σ)) : tCallS sp E t1 σ H Q := h
theorem same_of {H H' : Hp} {p : Addr} {o : HO} (s : Same H H') (n : H' p = none) : Same H (upd H' p o) := fun b x e => by
  rw [upd_ne (ne_of_none (s b x e) n)]
  exact s b x e
theorem same_mut {H H' : Hp} {p : Addr} {o : HO} (s : Same H H') (n : H p = none) : Same H (upd H' p o) := fun b x e => by
  rw [upd_ne (ne_of_none e n)]
  exact s b x e
theorem w_dnew (h : ∀ d, H d = none → Q (.ref d) (upd H d (.dK []))) : tDNewK σ H Q := h
theorem w_dput {td ty tv : TE} (h : tv σ H fun v H1 => td σ H1 fun x H2 => ty σ H2 fun y H3 => ∃ a H4, x = .ref a ∧ DPut H3 a y v H4 ∧ D.nx σ H4) : sDPut td ty tv D σ H := h
theorem w_din {ty td : TE} (h : ty σ H fun y H1 => td σ H1 fun x H2 => ∃ a o, x = .ref a ∧ DGet H2 a y o ∧ Q (.bl o.isSome) H2) : tDIn ty td σ H Q := h
theorem w_dnin {ty td : TE} (h : ty σ H fun y H1 => td σ H1 fun x H2 => ∃ a o, x = .ref a ∧ DGet H2 a y o ∧ Q (.bl (!o.isSome)) H2) : tDNotIn ty td σ H Q := h
theorem w_iTup {tl : TE} {R : It → Hp → Prop} (h : tl σ H fun x H1 => ∃ a, x = .ref a ∧ (∃ xs, SqT K H1 a xs) ∧ R (Itt K a) H1) : iTup K tl σ H R := h
theorem w_iList {tl : TE} {R : It → Hp → Prop} (h : tl σ H fun x H1 => ∃ a, x = .ref a ∧ (∃ xs, SqL K H1 a xs) ∧ R (Itl K a) H1) : iList K tl σ H R := h
theorem w_lc {wi : TI} {ivs : List Nat} (h : wi σ H fun J H1 => ∀ Dl, H1 Dl = none → ∃ W : Nat → Nat → Hp → Prop, (∃ m, W 0 m (upd H1 Dl (.lst []))) ∧ ∀ i m H, W i m H →
  (J.stop i H ∧ Q (.ref Dl) H) ∨ (J.go i H ∧ ∃ Nx : Hp → Prop, (∀ H', Nx H' → ∃ m', m' < m ∧ W (i + 1) m' H') ∧ ∀ x H', J.yld i H x H' → g x (wipe σ ivs) H' fun σ2 H2 => wipe σ2 ivs = wipe σ ivs ∧ tt σ2 H2 fun b H3 =>
    if b = true then te σ2 H3 fun y H4 => ∃ acc, H4 Dl = some (.lst acc) ∧ acc.length < sizeLine ∧ Nx (upd H4 Dl (.lst (acc ++ [y]))) else Nx H3)) : tLc wi g tt te ivs σ H Q := h
theorem w_yes {R : Bool → Hp → Prop} (h : R true H) : tYes σ H R := h
theorem w_opin {neg : Bool} {xs : List V} (hs : SqL K H p xs ∨ SqT K H p xs) (hx : flatV x = true) (ha : xs.all flatV = true) (q : Q (.bl (if neg then !inV x xs else inV x xs)) H) : rIn K neg x (.ref p) H Q := ⟨p, xs, rfl, hs, hx, ha, q⟩
theorem w_isN (q : Q (.bl (decide (x = .non))) H) : (V.non = V.non ∧ Q (.bl (decide (x = .non))) H) := ⟨rfl, q⟩
theorem w_bm {T : String} {r : V → List V → Hp → VK → Prop} {to : TE} {tl : TA} (h : to σ H fun x H1 => tyV K T x H1 ∧ tl σ H1 fun xs H2 => r x xs H2 Q) : tBM K T r to tl σ H Q := h
theorem w_tyL {xs : List V} {R : Prop} (h : H p = some (.lst xs)) (q : R) : tyV K "list" (.ref p) H ∧ R := ⟨Or.inl ⟨rfl, xs, .inl (.inl h)⟩, q⟩
theorem w_app {xs : List V} (h : H p = some (.lst xs)) (l : xs.length < 100000) (q : Q .non (upd H p (.lst (xs ++ [v])))) : rAppend (.ref p) [v] H Q := ⟨p, xs, v, rfl, rfl, h, Nat.lt_of_lt_of_le l (by decide), q⟩
theorem w_bm0 {T : String} {r : V → List V → Hp → VK → Prop} {to : TE} (h : to σ H fun x H1 => tyV K T x H1 ∧ r x [] H1 Q) : tBM0 K T r to σ H Q := h
theorem w_rev {xs : List V} (h : H p = some (.lst xs)) (q : Q .non (upd H p (.lst xs.reverse))) : rReverse (.ref p) [] H Q := ⟨p, xs, rfl, rfl, h, q⟩
/-- pools -/
def IsPool (o : HO) : Prop := ∃ (c k : Int) (b : Bool) (s : Int), o = .lst [.int c, .int k, .bl b, .int s]
theorem upd_of {a b : Addr} {o : HO} (h : H b = none) {u : HO} (e : H a = some u) : (upd H b o) a = some u := by rw [upd_ne (ne_of_none e h)]; exact e
end Z
local macro_rules | `(tactic| walk_at "sz") => `(tactic| first | omega | (split <;> omega) | ((repeat' split) <;> omega) | (simp only [List.length_map]; (repeat' split) <;> omega))
local macro_rules | `(tactic| walk_at "hp") => `(tactic| first
  | assumption
  | exact L2.upd_same
  | ((refine' Z.upd_of ?h1 ?h2); (case h1 => assumption); (case h2 => walk_at "hp"))
  | ((refine' Z.upd_skip ?h1 ?h2); (case h1 => first | assumption | (apply Ne.symm; assumption)); (case h2 => walk_at "hp")))
local macro_rules | `(tactic| walk_at "cond") => `(tactic| first
  | exact L2.wide_mul (a := 200) (b := 200) (by omega) (by omega) (by decide) (by decide) (by decide)
  | exact L2.wide_div (b := 200) (by omega) (by omega) (by decide) (by decide)
  | exact ⟨by omega, by omega⟩
  | omega
  | exact (show (0 : Int) < _ by omega)
  | exact Or.inl ⟨by omega, by omega⟩
  | exact Or.inr ⟨by omega, by omega⟩
  | exact ⟨by omega, by omega, by decide⟩)
local macro_rules | `(tactic| walk_at "same") => `(tactic| first
  | assumption
  | exact L2.Same.refl _
  | (refine Z.same_of ?_ (by assumption); walk_at "same")
  | (refine Z.same_mut ?_ (by assumption); walk_at "same")
  | exact L2.Same.trans (by assumption) (by walk_at "same"))
local macro_rules | `(tactic| walk_at "seq") => `(tactic| first
  | assumption
  | (refine Or.inl (Or.inl ?_); walk_at "hp")
  | ((refine' L2.Same.seq ?se ?sh); (case sh => assumption); (case se => walk_at "same"))
  | ((refine' Evl.ex_t ?se ?sh); (case sh => assumption); (case se => walk_at "same")))
local macro_rules | `(tactic| walk_at "ar") => `(tactic| first
  | omega
  | (simp only [List.length_map, List.length_cons, List.length_nil]; omega))
local macro_rules | `(tactic| walk_at "w1") => `(tactic| first
  | with_reducible refine Z.w_seq ?_
  | with_reducible refine Z.w_asg ?_
  | with_reducible refine Z.w_op ?_
  | ((with_reducible refine' Z.w_var ?wv ?_); case wv => exact rfl)
  | with_reducible refine Z.w_c ?_
  | with_reducible refine Z.w_rI0 ?_
  | ((with_reducible refine' Z.w_gname ?we ?_); case we => (simp only [List.set_cons_zero, List.set_cons_succ] <;> rfl))
  | with_reducible refine Z.w_cons ?_
  | with_reducible refine Z.w_nil ?_
  | with_reducible refine Z.w_ifs ?_
  | with_reducible refine Z.w_test ?_
  | with_reducible refine Z.w_B ?_
  | with_reducible refine Z.w_bl ?_
  | with_reducible refine Z.w_rEqI ?_
  | with_reducible refine Z.w_rNeI ?_
  | with_reducible refine Z.w_cb ?_
  | with_reducible refine Z.w_call0 ?_
  | with_reducible refine Z.w_call ?_
  | with_reducible refine Z.w_isi_ii ?_
  | with_reducible refine Z.w_isi_ib ?_
  | with_reducible refine Z.w_isi_bb ?_
  | with_reducible refine Z.w_isi_bi ?_
  | with_reducible refine Z.w_isi_ss ?_
  | with_reducible refine Z.w_isi_is ?_
  | ((with_reducible refine' Z.w_isi_tt ?wh ?_); (case wh => walk_at "hp"))
  | ((with_reducible refine' Z.w_isi_tl ?wh ?_); (case wh => walk_at "hp"))
  | ((with_reducible refine' Z.w_isi_ll ?wh ?_); (case wh => walk_at "hp"))
  | ((with_reducible refine' Z.w_isi_lt ?wh ?_); (case wh => walk_at "hp"))
  | ((with_reducible refine' Z.w_isi_ti ?wh ?_); (case wh => walk_at "hp"))
  | ((with_reducible refine' Z.w_isi_tb ?wh ?_); (case wh => walk_at "hp"))
  | ((with_reducible refine' Z.w_isi_ts ?wh ?_); (case wh => walk_at "hp"))
  | ((with_reducible refine' Z.w_isi_li ?wh ?_); (case wh => walk_at "hp"))
  | ((with_reducible refine' Z.w_isi_lb ?wh ?_); (case wh => walk_at "hp"))
  | ((with_reducible refine' Z.w_isi_ls ?wh ?_); (case wh => walk_at "hp"))
  | with_reducible refine Z.w_tand ?_
  | with_reducible refine Z.w_tor ?_
  | with_reducible refine Z.w_tnot ?_
  | with_reducible refine Z.w_ret ?_
  | with_reducible refine Z.w_next ?_
  | with_reducible refine Z.w_un ?_
  | with_reducible refine Z.w_rU ?_
  | with_reducible refine Z.w_tup ?_
  | with_reducible refine Z.w_lst ?_
  | with_reducible refine Z.w_par ?_
  | ((with_reducible refine' Z.w_par2 ?we ?_); case we => (simp only [List.set_cons_zero, List.set_cons_succ] <;> rfl))
  | with_reducible refine Z.w_gsub ?_
  | with_reducible refine Z.w_andV ?_
  | with_reducible refine Z.w_orV ?_
  | with_reducible refine Z.w_notV ?_
  | with_reducible refine Z.w_ifV ?_
  | with_reducible refine Z.w_drop ?_
  | with_reducible refine Z.w_break ?_
  | with_reducible refine Z.w_cont ?_
  | with_reducible refine Z.w_gcons ?_
  | with_reducible refine Z.w_gnil ?_
  | with_reducible refine Z.w_for ?_
  | with_reducible refine Z.w_rng1 ?_
  | with_reducible refine Z.w_bits ?_
  | with_reducible refine Z.w_callN ?_
  | with_reducible refine Z.w_callS ?_
  | with_reducible refine Z.w_gcd ?_
  | with_reducible refine Z.w_dnew (fun d hd => ?_)
  | with_reducible refine Z.w_dput ?_
  | with_reducible refine Z.w_din ?_
  | with_reducible refine Z.w_dnin ?_
  | with_reducible refine Z.w_iTup ?_
  | with_reducible refine Z.w_iList ?_
  | with_reducible refine Z.w_lc ?_
  | with_reducible refine Z.w_yes ?_
  | ((with_reducible refine' ⟨_, rfl, ⟨_, ?wh⟩, ?_⟩); (case wh => walk_at "seq"))
  | with_reducible refine Z.w_ex1 ?_
  | ((with_reducible refine' Z.w_ixH ?wh ?wa ?_); (case wh => walk_at "hp"); (case wa => exact rfl))
  | ((with_reducible refine' Z.w_ixTH ?wh ?wa ?_); (case wh => walk_at "hp"); (case wa => exact rfl))
  | ((with_reducible refine' Z.w_gtupH ?wh ?wa ?_); (case wh => walk_at "hp"); (case wa => exact rfl))
  | ((with_reducible refine' Z.w_setLu ?wh ?wa ?_); (case wh => exact rfl); (case wa => (simp only [Int.reduceToNat, List.set_cons_zero, List.set_cons_succ] <;> rfl)))
  | ((with_reducible refine' Z.w_setLh ?wg ?wh ?wa ?_); (case wg => walk_at "hp"); (case wh => exact rfl); (case wa => (simp only [Int.reduceToNat, List.set_cons_zero, List.set_cons_succ] <;> rfl)))
  | ((with_reducible refine Z.w_rI ?wc ?_); (case wc => walk_at "cond"))
  | with_reducible refine Or.inl ⟨_, rfl, ?_⟩
  | with_reducible refine Or.inr ⟨_, rfl, ?_⟩
  | ((with_reducible refine' ⟨_, _, rfl, Or.inl ?wh, ?_⟩); (case wh => walk_at "seq"))
  | ((with_reducible refine' ⟨_, _, rfl, Or.inr ?wh, ?_⟩); (case wh => walk_at "seq"))
  | ((with_reducible refine' Z.w_ixL ?wh ?wa ?_); (case wh => assumption); (case wa => assumption))
  | with_reducible refine ⟨_, rfl, ?_⟩
  | with_reducible refine ⟨_, _, rfl, ?_⟩
  | ((with_reducible refine ⟨?wl, fun q hq' => ?_⟩); (case wl => exact Z.sz4 (by simp)))
  | with_reducible refine Z.w_ibT ?_
  | with_reducible refine Z.w_ibF ?_
  | with_reducible refine Z.w_ibNT ?_
  | with_reducible refine Z.w_ibNF ?_
  | ((with_reducible refine Z.w_iteT ?wh ?_); (case wh => walk_at "ar"))
  | ((with_reducible refine Z.w_iteF ?wh ?_); (case wh => walk_at "ar"))
  | ((with_reducible refine Z.w_iteNT ?wh ?_); (case wh => walk_at "ar"))
  | ((with_reducible refine Z.w_iteNF ?wh ?_); (case wh => walk_at "ar"))
  | with_reducible refine ⟨rfl, ?_⟩
  | ((with_reducible refine' Z.w_ixH ?wh ?wa ?_); (case wh => walk_at "hp"); (case wa => assumption))
  | ((with_reducible refine' Z.w_ixTH ?wh ?wa ?_); (case wh => walk_at "hp"); (case wa => assumption))
  | ((with_reducible refine' Z.w_ixL ?wh ?wa ?_); (case wh => walk_at "seq"); (case wa => assumption))
  | ((with_reducible refine' Z.w_ixT ?wh ?wa ?_); (case wh => walk_at "seq"); (case wa => assumption))
  | ((with_reducible refine Z.w_iteF ?wh ?_); (case wh => (intro h; cases h; done)))
  | ((with_reducible refine Z.w_iteT ?wh ?_); (case wh => exact rfl))
  | fail "w1")
local macro_rules | `(tactic| walk_at "wi") => `(tactic| first
  | with_reducible refine Z.w_ite (fun hc => ?_) (fun hc => ?_)
  | with_reducible refine Z.w_iteN (fun hc => ?_) (fun hc => ?_)
  | with_reducible refine Z.w_iteb (fun hc => ?_) (fun hc => ?_))
local macro_rules | `(tactic| walk_at "w") => `(tactic| repeat' walk_at "w1")
namespace OWN
open PySem PySem.Spec PyProof.Rows L2
section
variable {prog : Program} {w : World} {A : Around} {E : Value → Shared → Prop} {s : Shared}
theorem next_endG {it l : Addr} {i : Nat} {items : Array Value} {Q : Option Value → Shared → Prop} (hh : A.handled = none)
    (hit : s.heap.get? it = some (GNX.itObj l i)) (hl : s.heap.IsList l items) (hx : items[i]? = none)
    (hQ : ∀ h', Heap.ExtBut it s.heap h' → h'.get? it = some (GNX.itEnd i) → Q none { s with heap := h' }) : wpAny (model prog w) A (pyNext (.ref it)) Q E s := by
  have hT : s.TypeIs (.ref it) "list_iterator" := ⟨_, hit, rfl⟩
  obtain ⟨ol, hol, _, nl, hdl⟩ := hl
  unfold pyNext
  refine wpAny_bind (wpAny_attempt (wpAny_callSpecial?_slot (name := Str.ofString "__next__") hT slot_listiter_next
    (wpAny_call_entry slot_listiter_next hT entry_listiter_next ?_ (args_listiter_next _))))
  show wpAny _ _ (field (.ref it) 0 >>= _) _ _ s
  refine wpAny_bind (wpAny_field hit rfl (x := .ref l) rfl ?_)
  show wpAny _ _ (if (Value.ref l == Value.none) = true then _ else _) _ _ s
  rw [if_neg (show ¬ ((Value.ref l == Value.none) = true) from Bool.false_ne_true)]
  show wpAny _ _ (field (.ref it) 1 >>= _) _ _ s
  refine wpAny_bind (wpAny_field hit rfl (x := .int i 0) rfl ?_)
  show wpAny _ _ (seqItems? (.ref l) >>= _) _ _ s
  refine wpAny_bind (wpAny_seqItems hol hdl ?_)
  simp only [Int.toNat_natCast, hx]
  refine wpAny_bind (wpAny_rule (wpAny_bind (wpAny_setField hit rfl (by simp) ?_)))
  have hit2 : (s.heap.update it (Obj.mapFields (·.setIfInBounds 0 Value.none))).get? it = some (GNX.itEnd i) := by
    rw [Heap.get?_update_self _ hit (by rfl)]
    exact congrArg some (GNX.end_obj l i)
  show wpAny _ _ (newExc (.type "StopIteration") [] >>= _) _ _ _
  refine wpAny_bind ?_
  simp only [newExc, newTuple]
  refine wpAny_bind (wpAny_newObj_type ?_ (by size_fits))
  refine wpAny_bind (m := firstArgMember _ _) (wpAny_of_eq (a := Value.none) (by first | rfl | (simp only [firstArgMember]; rfl)) ?_)
  refine wpAny_newObj_type ?_ (by size_fits)
  simp only [raiseNew]
  refine wpAny_bind (wpAny_handled ?_)
  rw [show A.in1.handled = none from hh]
  refine wpAny_bind (wpAny_pure (wpAny_throw ?_))
  refine wpAny_bind (wpAny_isInstance (T := "StopIteration") (b := true) ⟨_, Heap.get?_push_size _ rfl, rfl⟩ isSubtype_stop ?_)
  exact wpAny_pure (hQ _ (((Heap.SameBut.update ..).extBut.push _).push _) (Heap.get?_push_of_some _ (Heap.get?_push_of_some _ hit2)))
theorem next_itemG {it l : Addr} {i : Nat} {items : Array Value} {x : Value} {Q : Option Value → Shared → Prop} (hit : s.heap.get? it = some (GNX.itObj l i))
    (hl : s.heap.IsList l items) (hx : items[i]? = some x)
    (hQ : ∀ h', h'.get? it = some (GNX.itObj l (i + 1)) → Heap.SameBut it s.heap h' → Q (some x) { s with heap := h' }) : wpAny (model prog w) A (pyNext (.ref it)) Q E s := by
  have hT : s.TypeIs (.ref it) "list_iterator" := ⟨_, hit, rfl⟩
  unfold pyNext
  refine wpAny_bind (wpAny_attempt (wpAny_callSpecial?_slot (name := Str.ofString "__next__") hT slot_listiter_next
    (wpAny_call_entry slot_listiter_next hT entry_listiter_next ?_ (args_listiter_next _))))
  exact GNX.next_item (Q := fun v s' => wpAny _ _ _ _ _ s') hit hl hx fun h' h1 h2 => wpAny_pure (hQ h' h1 h2)
end
section
variable {X : Cx} {pins : List (Addr × Obj)} {σ : L2.St} {H : Hp} {s : Shared} {C fl fi a : Addr} {n : Nat} {A1 : Around}
/-- a call of an own def with one argument, from within a built-in -/
theorem own_call {f : Addr} {fd : FuncData} {ps : List Str} {sp : Sp} {EI : XK} {Q : VK} {Ex : Value → Shared → Prop} (sb : Sub X n A1) (F : FnOk X.prog X.w X.K X.mg X.base CX0 n f fd ps sp) (b : Binds X.K fd ps []) (I : Inv X pins σ H s) (hsp : sp [.ref a] H Q EI) :
    wpAny (model X.prog X.w) A1 (call (.ref f) [.ref a]) (fun u s' => ∃ v H', Inv X pins σ H' s' ∧ RelV v u ∧ Q v H') Ex s := by
  have e0 : Env0 X.prog X.w X.K X.mg X.base A1 X.stack s H := by
    have e := I.env0
    exact ⟨by rw [sb.fr]; exact e.frames, e.mod, e.bs, e.bsz, e.funs, e.frf, e.hok, e.bare⟩
  have hl := F.len _ _ _ _ hsp
  have r2 : Vals [V.ref a] [Value.ref a] := .cons rfl .nil
  refine wpAny_call (codeAny_mono (F.run A1 X.stack s H ⟨[.ref a], []⟩ [.ref a] [.ref a] Q EI sb.room e0 (by
    have := b s [.ref a] I.kIn (by simpa using hl)
    simpa using this) r2 hsp) fun r s' hq => ?_)
  cases r with
  | error e => exact False.elim hq
  | ok fl =>
    cases fl with
    | ret u => exact I.after hq
    | next => exact False.elim hq
    | brk => exact False.elim hq
    | cont => exact False.elim hq
/-- an own __len__ -/
structure LnC (K : PySem.W.Frag) (C fl : Addr) : Prop where
  ln : PySem.W.findIn K (.ref C) "__len__" = some (some (.ref fl))
  lt : PySem.W.typeIn K (.ref fl) = some (.type "function")
theorem own_len {fd : FuncData} {ps : List Str} {sp : Sp} {Q : VK} {dx : Addr} {fs : List (Str × V)} {Ex : Value → Shared → Prop} (sb : Sub X n A1.in1) (hc : LnC X.K C fl) (F : FnOk X.prog X.w X.K X.mg X.base CX0 n fl fd ps sp) (b : Binds X.K fd ps []) (I : Inv X pins σ H s) (ha : H a = some (.ins C dx fs))
    (hsp : sp [.ref a] H (fun v H' => ∃ k : Nat, v = .int k ∧ k < 2 ^ 60 ∧ Q (.int k) H') E0) :
    wpAny (model X.prog X.w) A1 (call (.builtin "len") [.ref a]) (fun u s' => ∃ (k : Nat) (tk : Tok) (H' : Hp), u = .int k tk ∧ k < 2 ^ 60 ∧ Inv X pins σ H' s' ∧ Q (.int k) H') Ex s := by
  obtain ⟨mA, J, _⟩ := ins_get I.hok ha
  obtain ⟨od, J, _⟩ := J.look
  refine Calls.call_function_entry kind_len plain_len entry_len (args_len1 _) ?_
  unfold Builtin.«len»
  refine wpAny_bind (m := oneArg "len" _) (wpAny_pure ?_)
  refine wpAny_bind (m := callSpecial? (.ref a) (Str.ofString "__len__")) (PySem.W.special_fn (name := "__len__") (args := []) I.kIn J hc.ln hc.lt ?_)
  refine wpAny_mono (own_call sb F b I hsp) (fun u s' hu => ?_) fun _ _ z => z
  obtain ⟨v, H', I', r, k, rfl, hk, q⟩ := hu
  obtain ⟨t, rfl⟩ := (show ∃ t, u = Value.int k t from r)
  show wpAny _ _ _ _ _ _
  refine wpAny_bind (wpAny_holding (wpAny_pure ?_))
  refine wpAny_bind (wpAny_letGo ?_)
  show wpAny _ _ (if (k : Int) < 0 then _ else _) _ _ _
  rw [if_neg (by omega)]
  show wpAny _ _ (if (k : Int) ≥ 2 ^ 63 then _ else _) _ _ _
  rw [if_neg (by omega)]
  exact wpAny_bind (wpAny_mkInt (wpAny_pure ⟨_, rfl, k, _, H', rfl, hk, I'.kept (t' := _) (fun _ _ z => z), q⟩))
def rLenOwn (C : Addr) (sp : Sp) : List V → Hp → VK → Prop := fun xs H Q => ∃ (a dx : Addr) (fs : List (Str × V)), xs = [.ref a] ∧ H a = some (.ins C dx fs) ∧ sp [.ref a] H (fun v H' => ∃ k : Nat, v = .int k ∧ k < 2 ^ 60 ∧ Q (.int k) H') E0
/-- len(o) -/
theorem call_lenOwn {fd : FuncData} {ps : List Str} {sp : Sp} (hc : LnC X.K C fl) (F : FnOk X.prog X.w X.K X.mg X.base CX0 n fl fd ps sp) (b : Binds X.K fd ps []) (hr : Room (n + 1) X.A) : CallR X (.builtin "len") (rLenOwn C sp) := by
  intro pins s σ H xs us Q I rv h
  obtain ⟨a, dx, fs, rfl, ha, hsp⟩ := h
  obtain ⟨u, rfl, ru⟩ := rv.one
  cases ru
  refine wpAny_mono (own_len (Sub.in1 (⟨hr, rfl⟩ : Sub X (n + 1) X.A)) hc F b I ha hsp) (fun u s' hu => ?_) fun _ _ z => z
  obtain ⟨k, tk, H', rfl, hk, I', q⟩ := hu
  exact ⟨.int k, H', I', ⟨_, rfl⟩, q⟩
/-- an own __iter__ that gives an iterator over a list, and an own __len__ -/
structure ItB (K : PySem.W.Frag) (C fi fl : Addr) : Prop where
  it : PySem.W.findIn K (.ref C) "__iter__" = some (some (.ref fi))
  itF : PySem.W.isFn K (.ref fi) = true
  ln : LnC K C fl
theorem upd_swap {H : Hp} {q it : Addr} {o1 o2 o3 o4 : HO} (h : q ≠ it) : upd (upd (upd (upd H q o1) it o2) it o3) q o4 = upd (upd H q o4) it o3 := by
  funext b
  by_cases h1 : b = q
  · subst h1
    rw [upd_same, upd_ne h, upd_same]
  · rw [upd_ne h1]
    by_cases h2 : b = it
    · subst h2
      rw [upd_same, upd_same]
    · rw [upd_ne h2, upd_ne h2, upd_ne h1, upd_ne h2, upd_ne h1]
theorem sqL_upd {K : PySem.W.Frag} {H : Hp} {l b : Addr} {o : HO} {xs : List V} (h : SqL K H l xs) (n : l ≠ b) : SqL K (upd H b o) l xs := by
  rcases h with (h | ⟨o', h⟩) | h
  · exact .inl (.inl (by rw [upd_ne n]; exact h))
  · exact .inl (.inr ⟨o', by rw [upd_ne n]; exact h⟩)
  · exact .inr h
theorem it_loop {q l it : Addr} {ys : List V} {H0 : Hp} {Rs : Result → Shared → Prop} (hh : A1.in1.handled = none) (hS : SqL X.K H0 l ys) (n1 : l ≠ q) (n2 : l ≠ it) (n3 : q ≠ it) (hz : ys.length ≤ sizeLine)
    (hdone : ∀ s, Inv X pins σ (upd (upd H0 q (.lst ys)) it (ItE it ys.length)) s → Rs (.ok (.ret .none)) s) :
    ∀ (m i : Nat) (s : Shared), m = ys.length - i → i ≤ ys.length → Inv X pins σ (upd (upd H0 q (.lst (ys.take i))) it (ItO l it i)) s → codeAny (model X.prog X.w) A1 (.builtin "list.extend.loop" ⟨[.ref q, .ref it, .none], []⟩) Rs s := by
  intro m
  induction m with
  | zero =>
    intro i s hm hi I
    have e : i = ys.length := by omega
    subst e
    refine codeAny_builtin PySem.F.entry_extend_loop ?_
    rw [Around.under_plainId PySem.F.plain_extend_loop _]
    show wpAny _ A1.in1 (pyNext (.ref it) >>= _) _ _ s
    have hit := (I.hok it _ upd_same).1
    obtain ⟨its, rv, pl, _⟩ := I.list (sqL_upd (sqL_upd hS n1) n2)
    have hlen := rv.length
    refine wpAny_bind (next_endG hh hit pl.isList (by simp [hlen]) fun h' hx he => ?_)
    refine wpAny_pure (hdone _ ?_)
    have I1 : Inv X pins σ (upd (upd (upd H0 q (.lst (ys.take ys.length))) it (ItO l it ys.length)) it (ItE it ys.length)) { s with heap := h' } :=
      I.write (x := it) (e := it) (t' := s.toks) (by rw [upd_same]; exact trivial) (.inl rfl) (fun b u hb e => hx b u hb e) ⟨_, he⟩ (itE_ok he)
    rw [upd_upd, List.take_length] at I1
    exact I1
  | succ m ih =>
    intro i s hm hi I
    have hlt : i < ys.length := by omega
    refine codeAny_builtin PySem.F.entry_extend_loop ?_
    rw [Around.under_plainId PySem.F.plain_extend_loop _]
    show wpAny _ A1.in1 (pyNext (.ref it) >>= _) _ _ s
    have hit := (I.hok it _ upd_same).1
    obtain ⟨its, rv, pl, _⟩ := I.list (sqL_upd (sqL_upd hS n1) n2)
    have hlen := rv.length
    obtain ⟨u, hu, ru⟩ := rv.get (List.getElem?_eq_getElem hlt)
    refine wpAny_bind (next_itemG hit pl.isList (x := u) (by simpa using hu) fun h' he hx => ?_)
    have I1 : Inv X pins σ (upd (upd (upd H0 q (.lst (ys.take i))) it (ItO l it i)) it (ItO l it (i + 1))) { s with heap := h' } :=
      I.write (x := it) (e := it) (t' := s.toks) (by rw [upd_same]; exact trivial) (.inl rfl) (fun b u hb e => (hx.2 b hb).trans e) ⟨_, he⟩ (itO_ok he)
    have hq : (upd (upd (upd H0 q (.lst (ys.take i))) it (ItO l it i)) it (ItO l it (i + 1))) q = some (.lst (ys.take i)) := by rw [upd_ne n3, upd_ne n3, upd_same]
    obtain ⟨z, is2, k, r2, hl2, e⟩ := I1.lstM hq
    have hl3 : is2.length ≤ sizeLine := by omega
    rw [List.length_take] at hl2
    show wpAny _ A1.in1 (updateSeq q (·.push u) >>= _) _ _ _
    refine wpAny_bind (wpAny_updateSeq e rfl (wpAny_pure ⟨plainId_quiet PySem.F.plain_extend_loop _, ?_⟩) (by rw [List.size_toArray]; omega) (by show (is2.toArray.push u).size ≤ sizeLine + 1; rw [Array.size_push, List.size_toArray]; omega))
    have ht : ys.take (i + 1) = ys.take i ++ [ys[i]] := by rw [List.take_add_one, List.getElem?_eq_getElem hlt]; rfl
    refine ih (i + 1) _ (by omega) hlt ?_
    have I2 := I1.lset (its' := is2 ++ [u]) (ys := ys.take (i + 1)) (t' := s.toks) (f := (·.push u)) hq e (by simp) (by rw [ht]; exact r2.append (.cons ru .nil)) (by rw [List.length_take]; omega)
    rw [upd_swap n3] at I2
    exact I2
/-- list(o) -/
def LenEnd (H : Hp) (R : Prop) : VK := fun v H' => ∃ k : Nat, v = .int k ∧ k < 2 ^ 60 ∧ (H' = H ∧ (∀ j : Nat, V.int k = .int j → j ≤ sizeLine) ∧ R)
def rListIt (K : PySem.W.Frag) (C : Addr) (spI spL : Sp) : List V → Hp → VK → Prop := fun xs H Q => ∃ (a dx : Addr) (fs : List (Str × V)), xs = [.ref a] ∧ H a = some (.ins C dx fs) ∧
  ∀ q, H q = none → spI [.ref a] (upd H q (.lst [])) (fun v H1 => ∃ (l it : Addr) (ys : List V) (Hb : Hp) (fs' : List (Str × V)) (dx' : Addr), v = .ref it ∧ H1 = upd (upd Hb q (.lst [])) it (ItO l it 0) ∧ l ≠ q ∧ l ≠ it ∧ q ≠ it ∧ ys.length ≤ 1000 ∧ SqL K Hb l ys ∧ H1 a = some (.ins C dx' fs') ∧
    spL [.ref a] H1 (LenEnd H1 (Q (.ref q) (upd (upd Hb q (.lst ys)) it (ItE it ys.length)))) E0) E0
theorem own_hintL {fd : FuncData} {ps : List Str} {sp : Sp} {dx : Addr} {fs : List (Str × V)} {Qb : Bool → Shared → Prop} {Ex : Value → Shared → Prop} (sb : Sub X n A1.in1) (hc : LnC X.K C fl) (F : FnOk X.prog X.w X.K X.mg X.base CX0 n fl fd ps sp) (b : Binds X.K fd ps []) (I : Inv X pins σ H s) (ha : H a = some (.ins C dx fs))
    {R : Prop} (hsp : sp [.ref a] H (LenEnd H R) E0) (hq : ∀ b s', R → Inv X pins σ H s' → Qb b s') :
    wpAny (model X.prog X.w) A1 (Builtin.List.listLengthHint (.ref a)) Qb Ex s := by
  obtain ⟨mA, J, _⟩ := ins_get I.hok ha
  obtain ⟨od, J, _⟩ := J.look
  unfold Builtin.List.listLengthHint
  refine wpAny_bind (wpAny_bind (J.type.here ((PySem.W.looks_findIn I.kIn hc.ln).here ?_)))
  refine PySem.W.KFB.if_not rfl ?_
  rw [if_pos (show (some (Value.ref fl)).isSome = true from rfl)]
  refine wpAny_bind (wpAny_rule ?_)
  refine wpAny_bind (wpAny_attempt (wpAny_mono (own_len (Q := fun v H' => H' = H ∧ (∀ j : Nat, v = .int j → j ≤ sizeLine) ∧ R) (Ex := fun _ _ => False) sb hc F b I ha hsp) (fun u s' hu => ?_) fun e s' he => he.elim))
  obtain ⟨k, tk, H', rfl, hk, I', rfl, hz, hR⟩ := hu
  have hz' := hz k rfl
  show wpAny _ _ _ _ _ _
  refine wpAny_bind (wpAny_pure ?_)
  show wpAny _ _ (if Builtin.List.listTooLong ((k : Int)).toNat = true then _ else pure ((k : Int) != 0)) _ _ _
  rw [if_neg (by rw [Int.toNat_natCast, notLongL hz']; exact Bool.false_ne_true)]
  exact wpAny_pure (hq _ _ hR I')
theorem listiter_next : typeLookup (.type "list_iterator") "__next__" = pure (some (.builtin "list_iterator.__next__")) := slot_listiter_next.lookup
theorem call_listIt {fdI fdL : FuncData} {psI psL : List Str} {spI spL : Sp} (hc : ItB X.K C fi fl) (FI : FnOk X.prog X.w X.K X.mg X.base CX0 n fi fdI psI spI) (bI : Binds X.K fdI psI []) (FL : FnOk X.prog X.w X.K X.mg X.base CX0 n fl fdL psL spL) (bL : Binds X.K fdL psL []) (hr : Room (n + 3) X.A) (hh : X.A.handled = none) : CallR X (.type "list") (rListIt X.K C spI spL) := by
  intro pins s σ H xs us Q I rv h
  obtain ⟨a, dx, fs, rfl, ha, hq⟩ := h
  obtain ⟨u, rfl, ru⟩ := rv.one
  cases ru
  have sb : Sub X (n + 1) X.A.in1.in1 := Sub.in1 (Sub.in1 (⟨hr, rfl⟩ : Sub X (n + 3) X.A))
  refine callType_codes (Q₁ := fun obj s₁ => obj = .ref s.heap.objs.size ∧ s₁ = { s with heap := s.heap.push { cls := .type "list", data := .seq #[] } }) PySem.F.called_list (PySem.F.typeCall_list_1 _) PySem.F.entry_list_init
    (code_list_new _ ⟨rfl, rfl⟩) fun obj s₁ h₁ => ?_
  obtain ⟨rfl, rfl⟩ := h₁
  have hS : (s.heap.push { cls := .type "list", data := .seq #[] }).get? s.heap.objs.size = some { cls := .type "list", data := .seq #[] } := Heap.get?_push_size _ rfl
  refine ⟨⟨_, hS, rfl⟩, PySem.F.args_list_init_2 _ _, ?_⟩
  have fr : H s.heap.objs.size = none := I.hok.fresh (Nat.le_refl _)
  have hrun := hq _ fr
  have I1 : Inv X pins σ (upd H s.heap.objs.size (.lst [])) { s with heap := s.heap.push { cls := .type "list", data := .seq #[] } } := I.lnew (its := []) (t' := s.toks) .nil (Nat.zero_le _)
  show wpAny _ _ (do let old ← Builtin.List.listItems (.ref s.heap.objs.size); Builtin.List.listUpdate (.ref s.heap.objs.size) (fun _ => #[]); letGo old.toList.reverse; Builtin.List.listExtendWith (.ref s.heap.objs.size) (.ref a) .none) _ _ _
  refine wpAny_bind ?_
  unfold Builtin.List.listItems
  refine wpAny_bind (wpAny_seqItems hS rfl (wpAny_pure ?_))
  show wpAny _ _ (updateSeq s.heap.objs.size (fun _ => #[]) >>= fun _ => letGo (#[] : Array Value).toList.reverse >>= fun _ => Builtin.List.listExtendWith (.ref s.heap.objs.size) (.ref a) .none) _ _ _
  refine wpAny_bind (wpAny_updateSeq hS rfl ?_)
  have I2 := I1.lset (f := fun _ => #[]) (its := []) (its' := []) (ys := []) (t' := s.toks) upd_same hS rfl .nil (Nat.zero_le _)
  rw [upd_upd] at I2
  refine wpAny_bind (wpAny_letGo ?_)
  have ha2 : upd H s.heap.objs.size (.lst []) a = some (.ins C dx fs) := by rw [upd_ne (ne_of_none ha fr)]; exact ha
  have hne : s.heap.objs.size ≠ a := Ne.symm (ne_of_none ha fr)
  generalize s.heap.objs.size = q at *
  obtain ⟨mA, J, _⟩ := ins_get I2.hok ha2
  obtain ⟨od, J, _⟩ := J.look
  obtain ⟨m0, hF⟩ := I2.fr
  unfold Builtin.List.listExtendWith
  refine wpAny_bind (J.type.here ?_)
  have h1 : Builtin.List.listSameRef (.ref q) (.ref a) = false := by simp [Builtin.List.listSameRef, hne]
  have h2 : (Value.ref C == Value.type "list") = false := rfl
  have h3 : (Value.ref C == Value.type "tuple") = false := rfl
  simp only [h1, h2, h3, Bool.or_false, Bool.false_eq_true, if_false]
  refine wpAny_bind (PySem.W.owit_iter hF I2.ok.mod.kin J hc.it hc.itF ?_)
  refine wpAny_mono (own_call (sb.mono (Nat.le_succ _)) FI bI I2 hrun) (fun u s' hu => ?_) fun _ _ z => z
  obtain ⟨v, H1, J1, rv1, l, it, ys, Hb, fs', dx', rfl, rfl, n1, n2, n3, hy, hS1, ha3, hlen⟩ := hu
  cases rv1
  have hz : ys.length ≤ sizeLine := Nat.le_trans hy (by decide)
  have hit := (J1.hok it _ upd_same).1
  have hT : s'.TypeIs (.ref it) "list_iterator" := ⟨_, hit, rfl⟩
  unfold PySem.W.OwitIt
  refine wpAny_specialOf (name := "__next__") hT listiter_next ?_
  refine wpAny_bind (wpAny_holding (own_hintL sb.in1 hc.ln FL bL J1 ha3 hlen fun b s2 hR J2 => ?_))
  have fin : ∀ s3, Inv X pins σ (upd (upd Hb q (.lst [])) it (ItO l it 0)) s3 → codeAny (model X.prog X.w) X.A.in1 (.builtin "list.extend.loop" ⟨[.ref q, .ref it, .none], []⟩) (wants (fun r s₂ => r = .none ∧ EP X pins σ Q (.ref q) s₂) X.xe) s3 := fun s3 J3 =>
    it_loop (A1 := X.A.in1) (H0 := Hb) (ys := ys) hh hS1 n1 n2 n3 hz (fun s4 J4 => ⟨rfl, .ref q, _, J4, rfl, hR⟩) ys.length 0 s3 rfl (Nat.zero_le _) J3
  refine wpAny_ite_split (fun _ => ?_) (fun _ => wpAny_pure ⟨plainId_quiet PySem.F.plain_extend_loop _, fin _ J2⟩)
  have hq0 : (upd (upd Hb q (.lst [])) it (ItO l it 0)) q = some (.lst []) := by rw [upd_ne n3, upd_same]
  obtain ⟨z, its, k, r3, hl3, e3⟩ := J2.lstM hq0
  cases r3
  refine wpAny_bind (wpAny_rule ?_)
  refine wpAny_bind ?_
  show wpAny _ _ (updateSeq q (·.push .none) >>= fun _ => updateSeq q (·.pop)) _ _ _
  refine wpAny_bind (wpAny_updateSeq e3 rfl ?_)
  have I5 := J2.lset (f := (·.push Value.none)) (its' := [Value.none]) (ys := [.non]) (t' := s2.toks) hq0 e3 (by simp) (.cons rfl .nil) (by rw [List.length_singleton, sizeLine_eq]; decide)
  obtain ⟨z4, its4, k4, r4, hl4, e4⟩ := I5.lstM upd_same
  obtain ⟨u4, rfl, ru4⟩ := r4.one
  refine wpAny_updateSeq e4 rfl ?_ (by show 1 ≤ sizeLine; rw [sizeLine_eq]; decide) (by show 0 ≤ sizeLine + 1; exact Nat.zero_le _)
  refine wpAny_pure ⟨plainId_quiet PySem.F.plain_extend_loop _, fin _ ?_⟩
  have I6 := I5.lset (f := (·.pop)) (its := [u4]) (its' := []) (ys := []) (t' := s2.toks) upd_same e4 (by rfl) .nil (Nat.zero_le _)
  rw [upd_upd] at I6
  have hH : upd (upd (upd Hb q (.lst [])) it (ItO l it 0)) q (.lst []) = upd (upd Hb q (.lst [])) it (ItO l it 0) := by
    funext b
    by_cases hb : b = q
    · rw [hb, upd_same, hq0]
    · rw [upd_ne hb]
  rw [hH] at I6
  exact I6
end
end OWN

namespace DT
open PySem PySem.Spec PyProof.Rows L2
/-- what is known of a tuple that was made from a list -/
def Bare (o : Obj) : Prop := o.cls = .type "tuple" ∧ o.dict = none
section
variable {X : Cx}
def rTupZ (K : PySem.W.Frag) : List V → Hp → VK → Prop := fun xs H Q => ∃ (p : Addr) (ys : List V), xs = [.ref p] ∧ SqL K H p ys ∧ ∀ (l : Addr) (o : Obj), H l = none → Bare o → Q (.ref l) (upd H l (.frz o (.tup ys)))
theorem call_tupleZ : CallR X (.type "tuple") (rTupZ X.K) := by
  intro pins s σ H xs us Q I r h
  obtain ⟨p, ys, rfl, hq, q⟩ := h
  obtain ⟨u, rfl, rx⟩ := vals1 r
  cases rx
  obtain ⟨its, r', pl, hz⟩ := I.list hq
  have hlen := r'.length
  refine call_tuple_list pl.isList (fun h' kp => ?_) (by simp only [List.size_toArray] <;> omega)
  have I1 : Inv X pins σ H { s with heap := h' } := I.kept (t' := s.toks) kp
  have I2 : Inv X pins σ (upd H h'.objs.size (.frz { cls := .type "tuple", data := .seq its.toArray } (.tup ys))) { s with heap := h'.push { cls := .type "tuple", data := .seq its.toArray } } :=
    I1.laid (t' := s.toks) (fun b o e => Heap.get?_push_of_some _ e) (Nat.le_refl _) (show ObjOk X.prog X.w _ _ _ (.frz _ (.tup ys)) from ⟨Heap.get?_push_size _ rfl, hz, its, r', IsTup.new _ _⟩)
  exact ⟨.ref h'.objs.size, _, I2, rfl, q _ _ (I1.hok.fresh (Nat.le_refl _)) ⟨rfl, rfl⟩⟩
theorem pairs_of2 {pins : List (Addr × Obj)} {σ : L2.St} {H : Hp} {s : Shared} (I : Inv X pins σ H s) : ∀ {ps : List Addr} {kvs : List (Key × V)}, PySem.Paired (fun p kv => SqT X.K H p [kV kv.1, kv.2]) ps kvs →
    ∃ (prs : List (Key × Value)) (uvs : List (Value × Value)), KV kvs prs ∧ prs.length = ps.length ∧ uvs.length = ps.length ∧ ∀ (j : Nat) (u x : Value), uvs[j]? = some (u, x) → ∃ (b : Addr) (k : Key), ps[j]? = some b ∧ prs[j]? = some (k, x) ∧ IsTup s.heap b #[u, x] ∧ keyIs k u = true
  | _, _, .nil => ⟨[], [], .nil, rfl, rfl, fun j u x e => by simp at e⟩
  | _, _, .cons (a := p) (b := kv) h t => by
    obtain ⟨prs, uvs, r, hl, hl2, hp⟩ := pairs_of2 I t
    obtain ⟨its, rv, ht, _⟩ := I.tuple h
    obtain ⟨u, y, ei, ru, ry⟩ := vals2 rv
    subst ei
    refine ⟨(kv.1, y) :: prs, (u, y) :: uvs, .cons ⟨rfl, ry⟩ r, by rw [List.length_cons, List.length_cons, hl], by rw [List.length_cons, List.length_cons, hl2], fun j u' x e => ?_⟩
    cases j with
    | zero =>
      have e' : (u, y) = (u', x) := Option.some.inj e
      obtain ⟨e1, e2⟩ := Prod.mk.inj e'
      subst e1
      subst e2
      exact ⟨p, kv.1, rfl, rfl, ht, kV_is (P := X.prog) (w := X.w) ru⟩
    | succ j =>
      obtain ⟨b, k, e1, e2, e3⟩ := hp j u' x (by simpa using e)
      exact ⟨b, k, by simpa using e1, by simpa using e2, e3⟩
def rDictT (K : PySem.W.Frag) : List V → Hp → VK → Prop := fun xs H Q => ∃ (a : Addr) (o : Obj) (ps : List Addr) (kvs : List (Key × V)), xs = [.ref a] ∧ H a = some (.frz o (.tup (ps.map V.ref))) ∧ Bare o ∧ PySem.Paired (fun p kv => SqT K H p [kV kv.1, kv.2]) ps kvs ∧
    ∀ p, H p = none → Q (.ref p) (upd H p (.dK (mergeK [] kvs)))
theorem call_dictT (hcalm : X.calm = true) : CallR X (.type "dict") (rDictT X.K) := by
  intro pins s σ H xs us Q I r q
  obtain ⟨a, o, ps, kvs, rfl, ha, ⟨hcls, hdict⟩, hp, q⟩ := q
  obtain ⟨u, rfl, rx⟩ := vals1 r
  cases rx
  obtain ⟨ho, hz, its, rv, o', ho', hc', n, hdat⟩ := (show ObjOk X.prog X.w H s.heap a (.frz o (.tup (ps.map V.ref))) from I.hok a _ ha)
  have eo : o' = o := Option.some.inj (ho'.symm.trans ho)
  subst eo
  have ei := refs_at rv
  subst ei
  rw [List.length_map] at hz
  obtain ⟨prs, uvs, rel, hl, hl2, hpr⟩ := pairs_of2 I hp
  have hP := PairArg.tuple (prog := X.prog) (w := X.w) a (ps.map Value.ref).toArray (fun j => ps.getD j 0) uvs
  refine PySem.call_dict_pairs (knd := mixKind X.prog X.w) (kvs := prs) hP (I.ok.hd hcalm) ⟨⟨o', n, ho, hc', hdict, hdat⟩, ?_, fun j k v e => ?_⟩ ⟨by rw [hl, hl2], fun i key v e => ?_⟩ (by rw [hl2]; exact hz) fun h' tk hd' k => ?_
  · simp [hl2]
  · obtain ⟨b, k', e1, e2, e3, e4⟩ := hpr j k v e
    have hg : ps.getD j 0 = b := by
      rw [List.getD_eq_getElem?_getD, e1]
      rfl
    show (ps.map Value.ref).toArray[j]? = some (.ref (ps.getD j 0)) ∧ PairAt s.heap (ps.getD j 0) k v
    rw [hg]
    exact ⟨by simp [e1], .inl e3⟩
  · obtain ⟨b, k', e1, e2, e3, e4⟩ := hpr i key v e
    exact ⟨k', e2, e4⟩
  · have hm : (s.heap.objs.size == sysModules) = false := beq_eq_false_iff_ne.mpr (Nat.ne_of_gt I.big)
    have hlen : (mergeK [] kvs).length ≤ sizeLine := by
      refine Nat.le_trans (length_mergeK kvs []) ?_
      rw [List.length_nil, Nat.zero_add, rel.length, hl]
      exact hz
    exact ⟨.ref s.heap.objs.size, upd H s.heap.objs.size (.dK (mergeK [] kvs)), I.laid (t' := tk) (fun b o e => k b o (by intro h; cases h) e) (Nat.le_refl _) (show ObjOk X.prog X.w _ _ _ (.dK (mergeK [] kvs)) from ⟨hlen, hm, merged [] prs, KV.merge rel .nil, hd'⟩), rfl, q _ (I.hok.fresh (Nat.le_refl _))⟩
theorem hits_ref {A : Around} {s : Shared} {kvs : List (Key × V)} {vb : List (Key × Value)} (rb : KV kvs vb) {ks : List (Key × V)} {va : List (Key × Value)} (ra : KV ks va) :
    (∀ p ∈ ks, valV kvs p.1 = some p.2 ∧ ∃ t, p.2 = V.ref t) → PySem.W.KeqHits A s vb va true := by
  unfold KV at ra
  induction ra with
  | nil => intro _; exact .nil
  | @cons p q ps qs h t ih =>
    intro hp
    obtain ⟨h1, h2⟩ := h
    obtain ⟨e, t', f⟩ := hp p List.mem_cons_self
    have rr : RelO (some p.2) (valueAt vb p.1) := by rw [← e]; exact rb.val p.1
    obtain ⟨y, hy, ry⟩ := rr.some_of
    obtain ⟨k, v⟩ := q
    have h1' : p.1 = k := h1
    rw [h1'] at hy
    rw [f] at ry h2
    have e1 : y = Value.ref t' := ry
    have e2 : v = Value.ref t' := h2
    subst e1
    subst e2
    show PySem.W.KeqHits A s vb ((k, Value.ref t') :: qs) (true && true)
    exact .hit hy (SeqAt.EqAt.same _) (ih fun p' hm => hp p' (List.mem_cons_of_mem _ hm))
def rEqDR : R2 := fun x y H Q => ∃ (a b : Addr) (kvs : List (Key × V)), x = .ref a ∧ y = .ref b ∧ H a = some (.dK kvs) ∧ H b = some (.dK kvs) ∧ (kvs.map (·.1)).Nodup ∧ (∀ p ∈ kvs, ∃ t, p.2 = V.ref t) ∧ Q (.bl true) H
theorem op_eq_dictR (hu : X.A.units < cLine) : OpR X (compareOp .Eq) rEqDR := by
  intro pins s σ H x y v u Q I rx ry h
  obtain ⟨a, b, kvs, rfl, rfl, ea, eb, nd, fl, q⟩ := h
  obtain rfl : v = Value.ref a := rx
  obtain rfl : u = Value.ref b := ry
  obtain ⟨_, ya, va, ra, da⟩ := (show ObjOk X.prog X.w H s.heap a (.dK kvs) from I.hok a _ ea)
  obtain ⟨_, yb, vb, rb, db⟩ := (show ObjOk X.prog X.w H s.heap b (.dK kvs) from I.hok b _ eb)
  have hl : va.length = vb.length := by rw [← ra.length, ← rb.length]
  exact PySem.W.keq_eq (knd := mixKind X.prog X.w) (r := true) ya yb da db hu (fun _ => hits_ref rb ra fun p hp => ⟨val_nodup nd p hp, fl p hp⟩) (fin_bl I q (by simp [hl]))
end
end DT
namespace DT
open PySem PySem.Spec PyProof.Rows L2
section
variable {X : Cx}
/-- d.update(e) of two dicts -/
def rUpdate : V → List V → Hp → VK → Prop := fun x xs H Q => ∃ (d o : Addr) (kvs more : List (Key × V)), x = .ref d ∧ xs = [.ref o] ∧ d ≠ o ∧ H d = some (.dK kvs) ∧ H o = some (.dK more) ∧ kvs.length + more.length ≤ sizeLine ∧ Q .non (upd H d (.dK (mergeK kvs more)))
theorem mt_update : MtR X "dict.update" rUpdate := by
  intro pins s σ H x xs v us Q I rx rv h
  obtain ⟨d, o, kvs, more, rfl, rfl, hne, hd, ho, hz, q⟩ := h
  cases rx
  obtain ⟨u, rfl, ru⟩ := rv.one
  cases ru
  obtain ⟨_, y1, va, ra, da⟩ := dk_of I.hok hd
  obtain ⟨_, y2, vb, rb, db⟩ := dk_of I.hok ho
  have hz2 : va.length + vb.length ≤ sizeLine := by rw [← ra.length, ← rb.length]; exact hz
  refine call_meetsIn PySem.F.slot_dict_update da.typeIs PySem.F.entry_dict_update (PySem.F.args_dict_update_2 _ _) (meets_dict_update (mixKind X.prog X.w) d o hne y2) ⟨va, vb, da, db, hz2, fun h' hd' ho' hs => ?_⟩
  have hlen : (mergeK kvs more).length ≤ sizeLine := Nat.le_trans (length_mergeK more kvs) (by omega)
  have he : ∃ q, h'.get? d = some q := by
    obtain ⟨ob, _, _, hob, _⟩ := hd'
    exact ⟨ob, hob⟩
  exact ⟨V.non, _, d_write (t' := s.toks) I (by rw [hd]; exact trivial) hs he (dk_new hlen y1 (rb.merge ra) hd'), rfl, q⟩
end
end DT

namespace HQ
/-! heaps of triples of numbers -/
abbrev Ent := Int × Int × Int
def ltE (a b : Ent) : Bool := if a.1 = b.1 then (if a.2.1 = b.2.1 then decide (a.2.2 < b.2.2) else decide (a.2.1 < b.2.1)) else decide (a.1 < b.1)
def leE (a b : Ent) : Prop := ltE b a = false
theorem ltE_iff (a b : Ent) : ltE a b = true ↔ a.1 < b.1 ∨ (a.1 = b.1 ∧ (a.2.1 < b.2.1 ∨ (a.2.1 = b.2.1 ∧ a.2.2 < b.2.2))) := by
  unfold ltE
  split
  · split <;> simp <;> omega
  · simp
    omega
theorem leE_iff (a b : Ent) : leE a b ↔ a.1 < b.1 ∨ (a.1 = b.1 ∧ (a.2.1 < b.2.1 ∨ (a.2.1 = b.2.1 ∧ a.2.2 ≤ b.2.2))) := by
  unfold leE
  rw [← Bool.not_eq_true, ltE_iff]
  omega
theorem leE_refl (a : Ent) : leE a a := by rw [leE_iff]; omega
theorem leE_trans {a b c : Ent} (h1 : leE a b) (h2 : leE b c) : leE a c := by rw [leE_iff] at *; omega
theorem leE_of_lt {a b : Ent} (h : ltE a b = true) : leE a b := by rw [leE_iff]; rw [ltE_iff] at h; omega
theorem leE_fst {a b : Ent} (h : leE a b) : a.1 ≤ b.1 := by rw [leE_iff] at h; omega
def HeapL (xs : List Ent) : Prop := ∀ j, 0 < j → ∀ a b, xs[(j - 1) / 2]? = some a → xs[j]? = some b → leE a b
def Up (xs : List Ent) (pos : Nat) : Prop := (∀ j, 0 < j → j ≠ pos → ∀ a b, xs[(j - 1) / 2]? = some a → xs[j]? = some b → leE a b) ∧
  (0 < pos → ∀ j, 0 < j → (j - 1) / 2 = pos → ∀ a b, xs[(pos - 1) / 2]? = some a → xs[j]? = some b → leE a b)
def Dn (xs : List Ent) (pos : Nat) : Prop := (∀ j, 0 < j → j ≠ pos → (j - 1) / 2 ≠ pos → ∀ a b, xs[(j - 1) / 2]? = some a → xs[j]? = some b → leE a b) ∧
  (0 < pos → ∀ j, 0 < j → (j - 1) / 2 = pos → ∀ a b, xs[(pos - 1) / 2]? = some a → xs[j]? = some b → leE a b)
/-- the first is the least -/
theorem HeapL.min {xs : List Ent} (h : HeapL xs) {a : Ent} (ha : xs[0]? = some a) : ∀ (n j : Nat) (b : Ent), j ≤ n → xs[j]? = some b → leE a b
  | 0, j, b, hj, hb => by
    obtain rfl : j = 0 := by omega
    rw [ha] at hb
    obtain rfl := Option.some.inj hb
    exact leE_refl _
  | n + 1, j, b, hj, hb => by
    by_cases e : j = 0
    · subst e
      rw [ha] at hb
      obtain rfl := Option.some.inj hb
      exact leE_refl _
    · have hl := (List.getElem?_eq_some_iff.mp hb).1
      have hp : (j - 1) / 2 < xs.length := by omega
      exact leE_trans (HeapL.min h ha n ((j - 1) / 2) _ (by omega) (List.getElem?_eq_getElem hp)) (h j (by omega) _ _ (List.getElem?_eq_getElem hp) hb)
theorem HeapL.least {xs : List Ent} (h : HeapL xs) {a b : Ent} (ha : xs[0]? = some a) (hb : b ∈ xs) : leE a b := by
  obtain ⟨j, hj⟩ := List.mem_iff_getElem?.mp hb
  exact h.min ha j j b (Nat.le_refl _) hj
/-- two places exchanged -/
structure Sw (xs ys : List Ent) (i j : Nat) (a b : Ent) : Prop where
  xi : xs[i]? = some a
  xj : xs[j]? = some b
  yi : ys[i]? = some b
  yj : ys[j]? = some a
  rest : ∀ k, k ≠ i → k ≠ j → ys[k]? = xs[k]?
  len : ys.length = xs.length
theorem sw_of {xs : List Ent} {i j : Nat} {a b : Ent} (h : i ≠ j) (hi : xs[i]? = some a) (hj : xs[j]? = some b) : Sw xs ((xs.set i b).set j a) i j a b := by
  have li := (List.getElem?_eq_some_iff.mp hi).1
  have lj := (List.getElem?_eq_some_iff.mp hj).1
  refine ⟨hi, hj, ?_, ?_, fun k k1 k2 => ?_, by simp⟩
  · rw [List.getElem?_set_ne (Ne.symm h), List.getElem?_set_self li]
  · rw [List.getElem?_set_self (by simpa using lj)]
  · rw [List.getElem?_set_ne (Ne.symm k2), List.getElem?_set_ne (Ne.symm k1)]
theorem Sw.mem {xs ys : List Ent} {i j : Nat} {a b : Ent} (h : Sw xs ys i j a b) (e : Ent) : e ∈ ys ↔ e ∈ xs := by
  constructor
  · intro he
    obtain ⟨k, hk⟩ := List.mem_iff_getElem?.mp he
    by_cases k1 : k = i
    · subst k1
      rw [h.yi] at hk
      obtain rfl := Option.some.inj hk
      exact List.mem_of_getElem? h.xj
    · by_cases k2 : k = j
      · subst k2
        rw [h.yj] at hk
        obtain rfl := Option.some.inj hk
        exact List.mem_of_getElem? h.xi
      · rw [h.rest k k1 k2] at hk
        exact List.mem_of_getElem? hk
  · intro he
    obtain ⟨k, hk⟩ := List.mem_iff_getElem?.mp he
    by_cases k1 : k = i
    · subst k1
      rw [h.xi] at hk
      obtain rfl := Option.some.inj hk
      exact List.mem_of_getElem? h.yj
    · by_cases k2 : k = j
      · subst k2
        rw [h.xj] at hk
        obtain rfl := Option.some.inj hk
        exact List.mem_of_getElem? h.yi
      · rw [← h.rest k k1 k2] at hk
        exact List.mem_of_getElem? hk
theorem up_done {xs : List Ent} {pos : Nat} (h : Up xs pos) (h2 : 0 < pos → ∀ a b, xs[(pos - 1) / 2]? = some a → xs[pos]? = some b → leE a b) : HeapL xs := fun j hj a b ha hb => by
  by_cases e : j = pos
  · subst e
    exact h2 hj a b ha hb
  · exact h.1 j hj e a b ha hb
theorem up_step {xs ys : List Ent} {pos : Nat} {p x : Ent} (h : Up xs pos) (h0 : 0 < pos) (s : Sw xs ys ((pos - 1) / 2) pos p x) (hlt : ltE x p = true) : Up ys ((pos - 1) / 2) := by
  have hle := leE_of_lt hlt
  have hne : (pos - 1) / 2 ≠ pos := by omega
  refine ⟨fun j hj hjn a b ha hb => ?_, fun hp j hj hjp a b ha hb => ?_⟩
  · by_cases e : j = pos
    · subst e
      rw [s.yi] at ha
      rw [s.yj] at hb
      obtain rfl := Option.some.inj ha
      obtain rfl := Option.some.inj hb
      exact hle
    · rw [s.rest j hjn e] at hb
      by_cases e1 : (j - 1) / 2 = (pos - 1) / 2
      · rw [e1, s.yi] at ha
        obtain rfl := Option.some.inj ha
        exact leE_trans hle (h.1 j hj e p b (by rw [e1]; exact s.xi) hb)
      · by_cases e2 : (j - 1) / 2 = pos
        · rw [e2, s.yj] at ha
          obtain rfl := Option.some.inj ha
          exact h.2 h0 j hj e2 p b s.xi hb
        · rw [s.rest _ e1 e2] at ha
          exact h.1 j hj e a b ha hb
  · have g1 : ((pos - 1) / 2 - 1) / 2 ≠ (pos - 1) / 2 := by omega
    have g2 : ((pos - 1) / 2 - 1) / 2 ≠ pos := by omega
    rw [s.rest _ g1 g2] at ha
    have hpp : leE a p := h.1 ((pos - 1) / 2) hp (by omega) a p ha s.xi
    by_cases e : j = pos
    · subst e
      rw [s.yj] at hb
      obtain rfl := Option.some.inj hb
      exact hpp
    · rw [s.rest j (by omega) e] at hb
      exact leE_trans hpp (h.1 j hj e p b (by rw [hjp]; exact s.xi) hb)
theorem dn_leaf {xs : List Ent} {pos : Nat} (h : Dn xs pos) (hl : xs.length / 2 ≤ pos) : Up xs pos := by
  refine ⟨fun j hj hjn a b ha hb => ?_, h.2⟩
  by_cases e : (j - 1) / 2 = pos
  · have := (List.getElem?_eq_some_iff.mp hb).1
    omega
  · exact h.1 j hj hjn e a b ha hb
theorem dn_step {xs ys : List Ent} {pos c : Nat} {x y : Ent} (h : Dn xs pos) (hc : 0 < c) (hp : (c - 1) / 2 = pos) (s : Sw xs ys c pos y x) (hmin : ∀ j b, 0 < j → (j - 1) / 2 = pos → xs[j]? = some b → leE y b) : Dn ys c := by
  refine ⟨fun j hj hjc hjp a b ha hb => ?_, fun _ j hj hjp a b ha hb => ?_⟩
  · by_cases e : j = pos
    · subst e
      rw [s.yj] at hb
      obtain rfl := Option.some.inj hb
      rw [s.rest _ (by omega) (by omega)] at ha
      exact h.2 hj c hc hp a y ha s.xi
    · rw [s.rest j hjc e] at hb
      by_cases e1 : (j - 1) / 2 = pos
      · rw [e1, s.yj] at ha
        obtain rfl := Option.some.inj ha
        exact hmin j b hj e1 hb
      · rw [s.rest _ hjp e1] at ha
        exact h.1 j hj e e1 a b ha hb
  · rw [hp, s.yj] at ha
    obtain rfl := Option.some.inj ha
    rw [s.rest j (by omega) (by omega)] at hb
    exact h.1 j hj (by omega) (by omega) y b (by rw [hjp]; exact s.xi) hb
end HQ

namespace HQ
open PySem PySem.Spec PyProof.Rows L2
theorem plain_sift : plainId "_heapq.heapify.sift" = true := by decide +kernel
theorem entry_sift : entryFor table "_heapq.heapify.sift" = some Builtin.«_heapq.heapify.sift» := entryFor_of_fast (by kernel_rfl)
theorem plain_push : plainId "_heapq.heappush" = true := by decide +kernel
theorem entry_push : entryFor table "_heapq.heappush" = some Builtin.«_heapq.heappush» := entryFor_of_fast (by kernel_rfl)
theorem kind_push : builtinKind "_heapq.heappush" = none := by decide +kernel
theorem args_push (a b : Value) : argsOk "_heapq.heappush" ⟨[a, b], []⟩ := by unfold argsOk; kernel_rfl
theorem plain_pop : plainId "_heapq.heappop" = true := by decide +kernel
theorem entry_pop : entryFor table "_heapq.heappop" = some Builtin.«_heapq.heappop» := entryFor_of_fast (by kernel_rfl)
theorem kind_pop : builtinKind "_heapq.heappop" = none := by decide +kernel
theorem args_pop (a : Value) : argsOk "_heapq.heappop" ⟨[a], []⟩ := by unfold argsOk; kernel_rfl
section
variable {prog : Program} {w : World} {A : Around} {E : Value → Shared → Prop} {s : Shared}
theorem call_fn_again {id : String} {b : Builtin} {args : List Value} {Q : Value → Shared → Prop} (hk : builtinKind id = none) (hp : plainId id = true)
    (hb : entryFor table id = some b) (ha : argsOk id ⟨args, []⟩)
    (hc : wpAny (model prog w) A.in1 (b ⟨args, []⟩) (fun fin s' => match fin with
      | .done f => (match (Except.ok f : Result) with | .ok (.ret v) => Q v s' | .ok _ => False | .error e => E e s')
      | .again c' => c'.quiet = true ∧ codeAny (model prog w) A c' (fun r s' => match r with | .ok (.ret v) => Q v s' | .ok _ => False | .error e => E e s') s') E s) : wpAny (model prog w) A (call (.builtin id) args) Q E s := by
  refine wpAny_call (codeAny_call_builtin hp hb ?_)
  simp only [checkBuiltinCall, hk]
  cases hsig : Manifest.signature? id with
  | none => exact wpAny_pure hc
  | some sig =>
    simp only [argsOk, hsig] at ha
    have h2 : Bind.checkArgs id sig ⟨args, []⟩ = pure () := ha
    show wpAny _ A.in1 (Bind.checkArgs id sig ⟨args, []⟩) _ _ s
    rw [h2]
    exact wpAny_pure hc
end
def EntAt (K : PySem.W.Frag) (H : Hp) (t : Addr) (e : Ent) : Prop := SqT K H t [.int e.1, .int e.2.1, .int e.2.2]
def QAt (K : PySem.W.Frag) (H : Hp) (us : List V) (es : List Ent) : Prop := us.length = es.length ∧ ∀ (i : Nat) (e : Ent), es[i]? = some e → ∃ t, us[i]? = some (V.ref t) ∧ EntAt K H t e
section
variable {X : Cx} {pins : List (Addr × Obj)} {σ : L2.St} {H : Hp} {s : Shared} {a : Addr}
theorem lt_ent {A : Around} {t u : Addr} {x y : Ent} {Q E : Value → Shared → Prop} (I : Inv X pins σ H s) (hu : A.units < cLine) (ht : EntAt X.K H t x) (hy : EntAt X.K H u y) (q : Q (.bool (ltE x y)) s) : wpAny (model X.prog X.w) A (richCompare .Lt (Value.ref t) (Value.ref u)) Q E s := by
  have ht' : SqT X.K H t ([x.1, x.2.1, x.2.2].map V.int) := ht
  have hy' : SqT X.K H u ([y.1, y.2.1, y.2.2].map V.int) := hy
  obtain ⟨its, r1, p1, _⟩ := I.tuple ht'
  obtain ⟨its2, r2, p2, _⟩ := I.tuple hy'
  have i1 : IntsAre its [x.1, x.2.1, x.2.2] := Vals.ints r1
  have i2 : IntsAre its2 [y.1, y.2.1, y.2.2] := Vals.ints r2
  have e1 : its.toArray.size = 3 := by rw [List.size_toArray]; exact i1.length
  have e2 : its2.toArray.size = 3 := by rw [List.size_toArray]; exact i2.length
  have at1 : ∀ j (h1 : j < its.toArray.size), ∃ t, its.toArray[j] = .int ([x.1, x.2.1, x.2.2].getD j 0) t := fun j h1 => PyProof.Rows.IntsAre.int_at i1 _ _ (by simp at h1; simp [h1])
  have at2 : ∀ j (h1 : j < its2.toArray.size), ∃ t, its2.toArray[j] = .int ([y.1, y.2.1, y.2.2].getD j 0) t := fun j h1 => PyProof.Rows.IntsAre.int_at i2 _ _ (by simp at h1; simp [h1])
  have R := Ob.RcOp.tuples_lt (A := A) (s := s) (e := fun j => decide ([x.1, x.2.1, x.2.2].getD j 0 = [y.1, y.2.1, y.2.2].getD j 0)) (r := fun j => decide ([x.1, x.2.1, x.2.2].getD j 0 < [y.1, y.2.1, y.2.2].getD j 0)) p1 p2 hu (fun j h1 h2 => by
    obtain ⟨t, et⟩ := at1 j h1
    obtain ⟨t', et'⟩ := at2 j h2
    rw [et, et']
    have z : ([x.1, x.2.1, x.2.2].getD j 0 == [y.1, y.2.1, y.2.2].getD j 0) = decide ([x.1, x.2.1, x.2.2].getD j 0 = [y.1, y.2.1, y.2.2].getD j 0) := by
      by_cases q : [x.1, x.2.1, x.2.2].getD j 0 = [y.1, y.2.1, y.2.2].getD j 0
      · rw [decide_eq_true q]; exact beq_iff_eq.mpr q
      · rw [decide_eq_false q]; exact beq_eq_false_iff_ne.mpr q
    rw [← z]
    exact SeqAt.EqAt.int_int _ _ _ _) (fun j h1 h2 _ => by
    obtain ⟨t, et⟩ := at1 j h1
    obtain ⟨t', et'⟩ := at2 j h2
    rw [et, et']
    exact Ob.RcOp.lt_int _ _ _ _)
  rw [e1, e2] at R
  refine R X.prog X.w E Q ?_
  have el : Ob.lexAt (fun j => decide ([x.1, x.2.1, x.2.2].getD j 0 = [y.1, y.2.1, y.2.2].getD j 0)) (fun j => decide ([x.1, x.2.1, x.2.2].getD j 0 < [y.1, y.2.1, y.2.2].getD j 0)) (decide ((3 : Nat) < 3)) 0 (min 3 3) = ltE x y := by
    show (if decide (x.1 = y.1) = true then (if decide (x.2.1 = y.2.1) = true then (if decide (x.2.2 = y.2.2) = true then decide ((3 : Nat) < 3) else decide (x.2.2 < y.2.2)) else decide (x.2.1 < y.2.1)) else decide (x.1 < y.1)) = _
    unfold ltE
    by_cases h1 : x.1 = y.1
    · rw [if_pos (decide_eq_true h1), if_pos h1]
      by_cases h2 : x.2.1 = y.2.1
      · rw [if_pos (decide_eq_true h2), if_pos h2]
        by_cases h3 : x.2.2 = y.2.2
        · rw [if_pos (decide_eq_true h3), decide_eq_false (show ¬ x.2.2 < y.2.2 by omega)]
          rfl
        · rw [if_neg (by simpa using h3)]
      · rw [if_neg (by simpa using h2), if_neg h2]
    · rw [if_neg (by simpa using h1), if_neg h1]
  rw [el]
  exact q
theorem QAt.at {K : PySem.W.Frag} {H : Hp} {us : List V} {es : List Ent} (h : QAt K H us es) {i : Nat} (hi : i < es.length) : ∃ t, us[i]? = some (V.ref t) ∧ EntAt K H t es[i] := h.2 i _ (List.getElem?_eq_getElem hi)
theorem EntAt.upd {K : PySem.W.Frag} {H : Hp} {t a : Addr} {e : Ent} {us vs : List V} (h : EntAt K (upd H a (.lst us)) t e) : EntAt K (upd H a (.lst vs)) t e := by
  rcases h with (h | ⟨o, h⟩) | h
  · by_cases n : t = a
    · subst n
      rw [upd_same] at h
      cases h
    · rw [upd_ne n] at h
      exact .inl (.inl (by rw [upd_ne n]; exact h))
  · by_cases n : t = a
    · subst n
      rw [upd_same] at h
      cases h
    · rw [upd_ne n] at h
      exact .inl (.inr ⟨o, by rw [upd_ne n]; exact h⟩)
  · exact .inr h
theorem QAt.upd {K : PySem.W.Frag} {H : Hp} {a : Addr} {us vs ws : List V} {es : List Ent} (h : QAt K (upd H a (.lst us)) ws es) : QAt K (upd H a (.lst vs)) ws es := ⟨h.1, fun i e he => by
  obtain ⟨t, h1, h2⟩ := h.2 i e he
  exact ⟨t, h1, h2.upd⟩⟩
/-- two places of the list exchanged -/
theorem QAt.swap {K : PySem.W.Frag} {H : Hp} {us : List V} {es : List Ent} (h : QAt K H us es) {i j : Nat} (hij : i ≠ j) {x y : Ent} (hi : es[i]? = some x) (hj : es[j]? = some y) {u v : V} (hu : us[i]? = some u) (hv : us[j]? = some v) : QAt K H ((us.set i v).set j u) ((es.set i y).set j x) := by
  have s := sw_of hij hi hj
  have li := (List.getElem?_eq_some_iff.mp hu).1
  have lj := (List.getElem?_eq_some_iff.mp hv).1
  refine ⟨by simp [h.1], fun k e he => ?_⟩
  by_cases k1 : k = i
  · subst k1
    rw [s.yi] at he
    obtain rfl := Option.some.inj he
    obtain ⟨t, h1, h2⟩ := h.2 j _ hj
    rw [hv] at h1
    obtain rfl := Option.some.inj h1
    exact ⟨t, by rw [List.getElem?_set_ne (Ne.symm hij), List.getElem?_set_self li], h2⟩
  · by_cases k2 : k = j
    · subst k2
      rw [s.yj] at he
      obtain rfl := Option.some.inj he
      obtain ⟨t, h1, h2⟩ := h.2 i _ hi
      rw [hu] at h1
      obtain rfl := Option.some.inj h1
      exact ⟨t, by rw [List.getElem?_set_self (by simpa using lj)], h2⟩
    · rw [s.rest k k1 k2] at he
      obtain ⟨t, h1, h2⟩ := h.2 k e he
      exact ⟨t, by rw [List.getElem?_set_ne (Ne.symm k2), List.getElem?_set_ne (Ne.symm k1)]; exact h1, h2⟩
theorem sift_up {Rs : Result → Shared → Prop} {res : Value} : ∀ (n pos : Nat) (us : List V) (es : List Ent) (s : Shared), pos ≤ n → Inv X pins σ (upd H a (.lst us)) s → QAt X.K (upd H a (.lst us)) us es → Up es pos → pos < es.length → X.A.in1.units < cLine →
    (∀ us' es' s', Inv X pins σ (upd H a (.lst us')) s' → QAt X.K (upd H a (.lst us')) us' es' → es'.length = es.length → (∀ e, e ∈ es' ↔ e ∈ es) → HeapL es' → Rs (.ok (.ret res)) s') →
    codeAny (model X.prog X.w) X.A (.builtin "_heapq.heapify.sift" ⟨[.ref a, .bool false, .bool false, rawInt (pos : Int), rawInt ((0 : Nat) : Int), res, rawInt (-1)], []⟩) Rs s := by
  intro n
  induction n with
  | zero =>
    intro pos us es s hp I hq hu hl hun hd
    obtain rfl : pos = 0 := by omega
    refine codeAny_builtin entry_sift ?_
    rw [Around.under_plainId plain_sift _]
    obtain ⟨z, its, n1, r, hlen, e⟩ := I.lstM upd_same
    unfold Builtin.«_heapq.heapify.sift»
    show wpAny _ _ (_ >>= _) _ _ _
    refine wpAny_bind (wpAny_bind (wpAny_seqItems e rfl (wpAny_pure ?_)))
    dsimp only
    rw [if_neg (show ¬ (false = true) by decide), if_neg (show ¬ ((0 : Nat) : Int).toNat > ((0 : Nat) : Int).toNat by decide), if_pos (show (-1 : Int) < 0 by decide)]
    exact wpAny_pure (hd us es s I hq rfl (fun _ => Iff.rfl) (up_done hu (fun h => absurd h (by decide))))
  | succ n ih =>
    intro pos us es s hp I hq hu hl hun hd
    refine codeAny_builtin entry_sift ?_
    rw [Around.under_plainId plain_sift _]
    obtain ⟨z, its, n1, r, hlen, e⟩ := I.lstM upd_same
    unfold Builtin.«_heapq.heapify.sift»
    show wpAny _ _ (_ >>= _) _ _ _
    refine wpAny_bind (wpAny_bind (wpAny_seqItems e rfl (wpAny_pure ?_)))
    dsimp only
    rw [if_neg (show ¬ (false = true) by decide)]
    by_cases h0 : pos = 0
    · subst h0
      rw [if_neg (show ¬ ((0 : Nat) : Int).toNat > ((0 : Nat) : Int).toNat by decide), if_pos (show (-1 : Int) < 0 by decide)]
      exact wpAny_pure (hd us es s I hq rfl (fun _ => Iff.rfl) (up_done hu (fun h => absurd h (by decide))))
    · rw [if_pos (show (pos : Int).toNat > ((0 : Nat) : Int).toNat by simp; omega)]
      have hel := hq.1
      have hpar : (pos - 1) / 2 < es.length := by omega
      obtain ⟨tx, ux, ex⟩ := hq.at hl
      obtain ⟨tp, up, ep⟩ := hq.at hpar
      obtain ⟨vx, gx, rx⟩ := r.get ux
      obtain ⟨vp, gp, rp⟩ := r.get up
      cases rx
      cases rp
      have gx' : its.toArray[(pos : Int).toNat]? = some (Value.ref tx) := by rw [Int.toNat_natCast]; simpa using gx
      have gp' : its.toArray[((pos : Int).toNat - 1) / 2]? = some (Value.ref tp) := by rw [Int.toNat_natCast]; simpa using gp
      refine wpAny_bind ?_
      show wpAny _ _ (match its.toArray[(pos : Int).toNat]? with | some v => pure v | none => unsupported _) _ _ _
      rw [gx']
      refine wpAny_pure ?_
      refine wpAny_bind ?_
      show wpAny _ _ (match its.toArray[((pos : Int).toNat - 1) / 2]? with | some v => pure v | none => unsupported _) _ _ _
      rw [gp']
      refine wpAny_pure ?_
      refine wpAny_bind (wpAny_bind (wpAny_holding (wpAny_bind (lt_ent I hun ex ep ?_))))
      refine (show wpAny _ _ (truthy (Value.bool _)) _ _ _ from wpAny_truthy_bool ?_)
      refine wpAny_bind (wpAny_bind (wpAny_seqItems e rfl (wpAny_pure ?_)))
      dsimp only
      rw [if_neg (by simp)]
      refine wpAny_pure ?_
      by_cases hlt : ltE es[pos] es[(pos - 1) / 2] = true
      · rw [hlt, if_pos rfl]
        refine wpAny_bind (wpAny_bind (wpAny_bind (wpAny_seqItems e rfl (wpAny_pure ?_))))
        refine wpAny_bind ?_
        show wpAny _ _ (match its.toArray[((pos : Int).toNat - 1) / 2]? with | some v => pure v | none => unsupported _) _ _ _
        rw [gp']
        refine wpAny_pure ?_
        refine wpAny_bind ?_
        show wpAny _ _ (match its.toArray[(pos : Int).toNat]? with | some v => pure v | none => unsupported _) _ _ _
        rw [gx']
        refine wpAny_pure ?_
        refine wpAny_updateSeq e rfl ?_ (by rw [List.size_toArray]; omega) (by simp; omega)
        refine wpAny_pure ⟨plainId_quiet plain_sift _, ?_⟩
        have hne : (pos - 1) / 2 ≠ pos := by omega
        have rx : RelV (V.ref tx) (Value.ref tx) := rfl
        have rp : RelV (V.ref tp) (Value.ref tp) := rfl
        have I2 := I.lset (t' := s.toks) (f := fun xs => (xs.setIfInBounds ((pos - 1) / 2) (Value.ref tx)).setIfInBounds pos (Value.ref tp)) (its' := (its.set ((pos - 1) / 2) (Value.ref tx)).set pos (Value.ref tp)) (ys := (us.set ((pos - 1) / 2) (V.ref tx)).set pos (V.ref tp)) upd_same e (by simp) ((r.set rx _).set rp _) (by simp; exact z)
        rw [upd_upd] at I2
        have sw := sw_of hne (List.getElem?_eq_getElem hpar) (List.getElem?_eq_getElem hl)
        refine ih ((pos - 1) / 2) _ _ _ (by omega) I2 (QAt.upd (hq.swap hne (List.getElem?_eq_getElem hpar) (List.getElem?_eq_getElem hl) up ux)) (up_step hu (by omega) sw hlt) (by rw [sw.len]; exact hpar) hun fun us' es' s' I' q' l' m' hh => hd us' es' s' I' q' (by rw [l', sw.len]) (fun e => (m' e).trans (sw.mem e)) hh
      · rw [if_neg hlt, if_pos (show (-1 : Int) < 0 by decide)]
        refine wpAny_pure (hd us es s I hq rfl (fun _ => Iff.rfl) (up_done hu fun _ x y hx hy => ?_))
        rw [List.getElem?_eq_getElem hpar] at hx
        rw [List.getElem?_eq_getElem hl] at hy
        obtain rfl := Option.some.inj hx
        obtain rfl := Option.some.inj hy
        exact Bool.eq_false_iff.mpr hlt
theorem sift_dn {Rs : Result → Shared → Prop} {res : Value} : ∀ (n pos : Nat) (us : List V) (es : List Ent) (s : Shared), es.length - pos ≤ n → Inv X pins σ (upd H a (.lst us)) s → QAt X.K (upd H a (.lst us)) us es → Dn es pos → pos < es.length → X.A.in1.units < cLine →
    (∀ us' es' s', Inv X pins σ (upd H a (.lst us')) s' → QAt X.K (upd H a (.lst us')) us' es' → es'.length = es.length → (∀ e, e ∈ es' ↔ e ∈ es) → HeapL es' → Rs (.ok (.ret res)) s') →
    codeAny (model X.prog X.w) X.A (.builtin "_heapq.heapify.sift" ⟨[.ref a, .bool false, .bool true, rawInt (pos : Int), rawInt ((0 : Nat) : Int), res, rawInt (-1)], []⟩) Rs s := by
  intro n
  induction n with
  | zero =>
    intro pos us es s hp I hq hu hl hun hd
    omega
  | succ n ih =>
    intro pos us es s hp I hq hu hl hun hd
    refine codeAny_builtin entry_sift ?_
    rw [Around.under_plainId plain_sift _]
    obtain ⟨z, its, n1, r, hlen, e⟩ := I.lstM upd_same
    have hel := hq.1
    have hsz : its.toArray.size = es.length := by rw [List.size_toArray, ← hlen, hel]
    unfold Builtin.«_heapq.heapify.sift»
    show wpAny _ _ (_ >>= _) _ _ _
    refine wpAny_bind (wpAny_bind (wpAny_seqItems e rfl (wpAny_pure ?_)))
    dsimp only
    rw [if_pos (show true = true from rfl)]
    by_cases h2 : pos < es.length / 2
    · rw [if_pos (show (pos : Int).toNat < its.toArray.size / 2 by rw [hsz, Int.toNat_natCast]; exact h2)]
      have hlc : 2 * pos + 1 < es.length := by omega
      have step : ∀ c, (c = 2 * pos + 1 ∨ c = 2 * pos + 2) → (hc : c < es.length) → (∀ j b, 0 < j → (j - 1) / 2 = pos → es[j]? = some b → leE es[c] b) → ∀ vx vc : Value, its[pos]? = some vx → its[c]? = some vc →
          codeAny (model X.prog X.w) X.A (.builtin "_heapq.heapify.sift" ⟨[.ref a, .bool false, .bool true, rawInt (c : Int), rawInt ((0 : Nat) : Int), res, rawInt (-1)], []⟩) Rs { s with heap := s.heap.update a (Obj.mapSeq fun xs => (xs.setIfInBounds c vx).setIfInBounds pos vc) } := by
        intro c hcc hc hmin vx vc gx gc
        have hne : c ≠ pos := by omega
        obtain ⟨tx, ux, ex⟩ := hq.at hl
        obtain ⟨tc, uc, ec⟩ := hq.at hc
        obtain ⟨vx', gx2, rx⟩ := r.get ux
        obtain ⟨vc', gc2, rc⟩ := r.get uc
        rw [gx] at gx2
        rw [gc] at gc2
        obtain rfl := Option.some.inj gx2
        obtain rfl := Option.some.inj gc2
        have I2 := I.lset (t' := s.toks) (f := fun xs => (xs.setIfInBounds c vx).setIfInBounds pos vc) (its' := (its.set c vx).set pos vc) (ys := (us.set c (V.ref tx)).set pos (V.ref tc)) upd_same e (by simp) ((r.set rx _).set rc _) (by simp; exact z)
        rw [upd_upd] at I2
        have sw := sw_of hne (List.getElem?_eq_getElem hc) (List.getElem?_eq_getElem hl)
        refine ih c _ _ _ (by rw [sw.len]; omega) I2 (QAt.upd (hq.swap hne (List.getElem?_eq_getElem hc) (List.getElem?_eq_getElem hl) uc ux)) (dn_step hu (by omega) (by omega) sw hmin) (by rw [sw.len]; exact hc) hun fun us' es' s' I' q' l' m' hh => hd us' es' s' I' q' (by rw [l', sw.len]) (fun e => (m' e).trans (sw.mem e)) hh
      simp only [Int.toNat_natCast]
      obtain ⟨tx, ux, ex⟩ := hq.at hl
      obtain ⟨vx, gx, rx⟩ := r.get ux
      obtain ⟨tl, ul, el⟩ := hq.at hlc
      obtain ⟨vl, gl, rl⟩ := r.get ul
      have ax : its.toArray[pos]? = some vx := by simpa using gx
      have al : its.toArray[2 * pos + 1]? = some vl := by simpa using gl
      by_cases h3 : 2 * pos + 1 + 1 < es.length
      · rw [if_pos (by rw [hsz]; exact h3)]
        obtain ⟨tr, ur, er⟩ := hq.at h3
        obtain ⟨vr, gr, rr⟩ := r.get ur
        cases rl
        cases rr
        have ar : its.toArray[2 * pos + 1 + 1]? = some (Value.ref tr) := by simpa using gr
        refine wpAny_bind ?_
        show wpAny _ _ (match its.toArray[2 * pos + 1]? with | some v => pure v | none => unsupported _) _ _ _
        rw [al]
        refine wpAny_pure ?_
        refine wpAny_bind ?_
        show wpAny _ _ (match its.toArray[2 * pos + 1 + 1]? with | some v => pure v | none => unsupported _) _ _ _
        rw [ar]
        refine wpAny_pure ?_
        rw [if_neg (show ¬ (false = true) by decide)]
        refine wpAny_bind (wpAny_bind (wpAny_holding (wpAny_bind (lt_ent I hun el er ?_))))
        refine (show wpAny _ _ (truthy (Value.bool _)) _ _ _ from wpAny_truthy_bool ?_)
        refine wpAny_bind (wpAny_bind (wpAny_seqItems e rfl (wpAny_pure ?_)))
        dsimp only
        rw [if_neg (by simp)]
        refine wpAny_pure ?_
        by_cases hlt : ltE es[2 * pos + 1] es[2 * pos + 1 + 1] = true
        · rw [hlt, if_neg (by decide)]
          refine wpAny_bind (wpAny_bind (wpAny_bind (wpAny_seqItems e rfl (wpAny_pure ?_))))
          refine wpAny_bind ?_
          show wpAny _ _ (match its.toArray[2 * pos + 1]? with | some v => pure v | none => unsupported _) _ _ _
          rw [al]
          refine wpAny_pure ?_
          refine wpAny_bind ?_
          show wpAny _ _ (match its.toArray[pos]? with | some v => pure v | none => unsupported _) _ _ _
          rw [ax]
          refine wpAny_pure ?_
          refine wpAny_updateSeq e rfl ?_ (by rw [List.size_toArray]; omega) (by simp; omega)
          refine wpAny_pure ⟨plainId_quiet plain_sift _, ?_⟩
          refine step (2 * pos + 1) (.inl rfl) hlc (fun j b h0 hj hb => ?_) _ _ gx gl
          have hjj : j = 2 * pos + 1 ∨ j = 2 * pos + 1 + 1 := by omega
          rcases hjj with rfl | rfl
          · rw [List.getElem?_eq_getElem hlc] at hb
            obtain rfl := Option.some.inj hb
            exact leE_refl _
          · rw [List.getElem?_eq_getElem h3] at hb
            obtain rfl := Option.some.inj hb
            exact leE_of_lt hlt
        · rw [if_pos (by simpa using hlt)]
          refine wpAny_bind (wpAny_bind (wpAny_bind (wpAny_seqItems e rfl (wpAny_pure ?_))))
          refine wpAny_bind ?_
          show wpAny _ _ (match its.toArray[2 * pos + 1 + 1]? with | some v => pure v | none => unsupported _) _ _ _
          rw [ar]
          refine wpAny_pure ?_
          refine wpAny_bind ?_
          show wpAny _ _ (match its.toArray[pos]? with | some v => pure v | none => unsupported _) _ _ _
          rw [ax]
          refine wpAny_pure ?_
          refine wpAny_updateSeq e rfl ?_ (by rw [List.size_toArray]; omega) (by simp; omega)
          refine wpAny_pure ⟨plainId_quiet plain_sift _, ?_⟩
          refine step (2 * pos + 1 + 1) (.inr rfl) h3 (fun j b h0 hj hb => ?_) _ _ gx gr
          have hjj : j = 2 * pos + 1 ∨ j = 2 * pos + 1 + 1 := by omega
          rcases hjj with rfl | rfl
          · rw [List.getElem?_eq_getElem hlc] at hb
            obtain rfl := Option.some.inj hb
            exact Bool.eq_false_iff.mpr hlt
          · rw [List.getElem?_eq_getElem h3] at hb
            obtain rfl := Option.some.inj hb
            exact leE_refl _
      · rw [if_neg (by rw [hsz]; exact h3)]
        refine wpAny_bind (wpAny_bind (wpAny_bind (wpAny_seqItems e rfl (wpAny_pure ?_))))
        refine wpAny_bind ?_
        show wpAny _ _ (match its.toArray[2 * pos + 1]? with | some v => pure v | none => unsupported _) _ _ _
        rw [al]
        refine wpAny_pure ?_
        refine wpAny_bind ?_
        show wpAny _ _ (match its.toArray[pos]? with | some v => pure v | none => unsupported _) _ _ _
        rw [ax]
        refine wpAny_pure ?_
        refine wpAny_updateSeq e rfl ?_ (by rw [List.size_toArray]; omega) (by simp; omega)
        refine wpAny_pure ⟨plainId_quiet plain_sift _, ?_⟩
        refine step (2 * pos + 1) (.inl rfl) hlc (fun j b h0 hj hb => ?_) _ _ gx gl
        have hjl := (List.getElem?_eq_some_iff.mp hb).1
        obtain rfl : j = 2 * pos + 1 := by omega
        rw [List.getElem?_eq_getElem hlc] at hb
        obtain rfl := Option.some.inj hb
        exact leE_refl _
    · rw [if_neg (show ¬ (pos : Int).toNat < its.toArray.size / 2 by rw [hsz, Int.toNat_natCast]; exact h2)]
      refine wpAny_pure ⟨plainId_quiet plain_sift _, ?_⟩
      exact sift_up pos pos us es s (Nat.le_refl _) I hq (dn_leaf hu (by omega)) hl hun hd
end
end HQ

namespace HQ
open PySem PySem.Spec PyProof.Rows L2
section
variable {X : Cx}
def rHPush (K : PySem.W.Frag) : List V → Hp → VK → Prop := fun xs H Q => ∃ (a t : Addr) (us : List V) (es : List Ent) (e : Ent), xs = [.ref a, .ref t] ∧ H a = some (.lst us) ∧ QAt K H us es ∧ HeapL es ∧ EntAt K H t e ∧ us.length < 10000000 ∧
  ∀ us' es', QAt K (upd H a (.lst us')) us' es' → es'.length = es.length + 1 → (∀ x, x ∈ es' ↔ x ∈ es ∨ x = e) → HeapL es' → Q .non (upd H a (.lst us'))
theorem QAt.push {K : PySem.W.Frag} {H : Hp} {us : List V} {es : List Ent} {t : Addr} {e : Ent} (h : QAt K H us es) (ht : EntAt K H t e) : QAt K H (us ++ [.ref t]) (es ++ [e]) := by
  refine ⟨by simp [h.1], fun i x hx => ?_⟩
  by_cases hi : i < es.length
  · rw [List.getElem?_append_left hi] at hx
    obtain ⟨u, h1, h2⟩ := h.2 i x hx
    exact ⟨u, by rw [List.getElem?_append_left (by rw [h.1]; exact hi)]; exact h1, h2⟩
  · have h2 := (List.getElem?_eq_some_iff.mp hx).1
    rw [List.length_append, List.length_singleton] at h2
    obtain rfl : i = es.length := by omega
    rw [List.getElem?_append_right (Nat.le_refl _), Nat.sub_self] at hx
    obtain rfl := Option.some.inj hx
    exact ⟨t, by rw [List.getElem?_append_right (by rw [h.1]; exact Nat.le_refl _), h.1, Nat.sub_self]; rfl, ht⟩
theorem EntAt.any {K : PySem.W.Frag} {H : Hp} {t a : Addr} {e : Ent} {us vs : List V} (ha : H a = some (.lst us)) (h : EntAt K H t e) : EntAt K (L2.upd H a (.lst vs)) t e := by
  have : L2.upd H a (.lst us) = H := by
    funext b
    by_cases e : b = a
    · rw [e, upd_same, ha]
    · rw [upd_ne e]
  rw [← this] at h
  exact h.upd
theorem QAt.any {K : PySem.W.Frag} {H : Hp} {a : Addr} {us vs ws : List V} {es : List Ent} (ha : H a = some (.lst us)) (h : QAt K H ws es) : QAt K (L2.upd H a (.lst vs)) ws es := ⟨h.1, fun i e he => by
  obtain ⟨t, h1, h2⟩ := h.2 i e he
  exact ⟨t, h1, h2.any ha⟩⟩
theorem up_push {es : List Ent} (h : HeapL es) (e : Ent) : Up (es ++ [e]) es.length := by
  refine ⟨fun j hj hjn a b ha hb => ?_, fun h0 j hj hjp a b ha hb => ?_⟩
  · have hl := (List.getElem?_eq_some_iff.mp hb).1
    rw [List.length_append, List.length_singleton] at hl
    rw [List.getElem?_append_left (by omega)] at ha hb
    exact h j hj a b ha hb
  · have hl := (List.getElem?_eq_some_iff.mp hb).1
    rw [List.length_append, List.length_singleton] at hl
    omega
theorem cr_push (hu : X.A.in1.units < cLine) : CallR X (.builtin "_heapq.heappush") (rHPush X.K) := by
  intro pins s σ H xs us0 Q I rv h
  obtain ⟨a, t, us, es, e, rfl, ha, hq, hh, he, hl, q⟩ := h
  obtain ⟨u1, u2, rfl, r1, r2⟩ := rv.two
  cases r1
  cases r2
  refine call_fn_again kind_push plain_push entry_push (args_push _ _) ?_
  obtain ⟨z, its, n1, r, hlen, eo⟩ := I.lstM ha
  have hT : s.TypeIs (.ref a) "list" := ⟨_, eo, rfl⟩
  unfold Builtin.«_heapq.heappush»
  show wpAny _ _ (_ >>= _) _ _ _
  refine wpAny_bind (wpAny_bind (wpAny_pure ?_))
  refine wpAny_bind (wpAny_pure ?_)
  dsimp only
  refine wpAny_bind ?_
  show wpAny _ _ (isInstance _ _ >>= _) _ _ _
  refine wpAny_bind (wpAny_isInstance (b := true) hT (by rfl) ?_)
  rw [if_pos rfl]
  refine wpAny_pure ?_
  refine wpAny_pure ?_
  dsimp only
  refine wpAny_bind ?_
  refine wpAny_updateSeq eo rfl ?_ (by rw [List.size_toArray]; omega) (by simp; omega)
  have rt : RelV (V.ref t) (Value.ref t) := rfl
  have I2 := I.lset (t' := s.toks) (f := (·.push (Value.ref t))) (its' := its ++ [Value.ref t]) (ys := us ++ [V.ref t]) ha eo (by simp) (r.append (.cons rt .nil)) (by rw [List.length_append, List.length_singleton]; exact Nat.le_trans (show us.length + 1 ≤ 10000000 by omega) (by decide))
  obtain ⟨z2, its2, n2, r2, hlen2, eo2⟩ := I2.lstM upd_same
  refine wpAny_bind (wpAny_bind (wpAny_seqItems eo2 rfl (wpAny_pure ?_)))
  refine wpAny_pure ⟨plainId_quiet plain_sift _, ?_⟩
  have hsz : its2.toArray.size - 1 = es.length := by
    rw [List.size_toArray, ← hlen2, List.length_append, List.length_singleton, hq.1]
    omega
  rw [hsz]
  refine sift_up es.length es.length (us ++ [V.ref t]) (es ++ [e]) _ (Nat.le_refl _) I2 ((hq.push he).any ha) (up_push hh e) (by rw [List.length_append, List.length_singleton]; omega) hu fun us' es' s' I' q' l' m' hh' => ?_
  refine ⟨.non, _, I', rfl, q us' es' q' (by rw [l', List.length_append]; rfl) (fun x => (m' x).trans (by rw [List.mem_append, List.mem_singleton])) hh'⟩
/-- the last one put at the first place -/
theorem pop_get {es : List Ent} {l : Ent} {k : Nat} : (es.dropLast.set 0 l)[k]? = if k + 1 < es.length then (if k = 0 then some l else es[k]?) else none := by
  rw [List.getElem?_set, List.getElem?_dropLast, List.length_dropLast]
  by_cases h : k + 1 < es.length
  · rw [if_pos h]
    by_cases h0 : k = 0
    · subst h0
      rw [if_pos rfl, if_pos rfl, if_pos (by omega)]
    · rw [if_neg (Ne.symm h0), if_neg h0, if_pos (by omega)]
  · rw [if_neg h]
    by_cases h0 : k = 0
    · subst h0
      rw [if_pos rfl, if_neg (by omega)]
    · rw [if_neg (Ne.symm h0), if_neg (by omega)]
theorem dn_pop {es : List Ent} {l : Ent} (h : HeapL es) : Dn (es.dropLast.set 0 l) 0 := by
  refine ⟨fun j hj hj0 hjp a b ha hb => ?_, fun h0 => absurd h0 (by decide)⟩
  rw [pop_get] at ha hb
  by_cases hk : j + 1 < es.length
  · rw [if_pos hk, if_neg hj0] at hb
    rw [if_pos (by omega), if_neg hjp] at ha
    exact h j hj a b ha hb
  · rw [if_neg hk] at hb
    cases hb
theorem pop_mem {es : List Ent} {e l : Ent} (h0 : es[0]? = some e) (hl : es.getLast? = some l) (h2 : 2 ≤ es.length) (x : Ent) : x ∈ es ↔ x = e ∨ x ∈ es.dropLast.set 0 l := by
  rw [List.getLast?_eq_getElem?] at hl
  constructor
  · intro hx
    obtain ⟨k, hk⟩ := List.mem_iff_getElem?.mp hx
    have hkl := (List.getElem?_eq_some_iff.mp hk).1
    by_cases k0 : k = 0
    · subst k0
      rw [h0] at hk
      exact .inl (Option.some.inj hk).symm
    · refine .inr (List.mem_iff_getElem?.mpr ?_)
      by_cases k1 : k + 1 < es.length
      · exact ⟨k, by rw [pop_get, if_pos k1, if_neg k0]; exact hk⟩
      · obtain rfl : k = es.length - 1 := by omega
        rw [hl] at hk
        exact ⟨0, by rw [pop_get, if_pos (by omega), if_pos rfl]; exact hk⟩
  · rintro (rfl | hx)
    · exact List.mem_of_getElem? h0
    · obtain ⟨k, hk⟩ := List.mem_iff_getElem?.mp hx
      rw [pop_get] at hk
      split at hk
      · split at hk
        · obtain rfl := Option.some.inj hk
          exact List.mem_of_getElem? hl
        · exact List.mem_of_getElem? hk
      · cases hk
theorem QAt.pop {K : PySem.W.Frag} {H : Hp} {us : List V} {es : List Ent} {t : Addr} {l : Ent} (h : QAt K H us es) (hu : us.getLast? = some (.ref t)) (ht : EntAt K H t l) : QAt K H (us.dropLast.set 0 (.ref t)) (es.dropLast.set 0 l) := by
  refine ⟨by simp [h.1], fun i x hx => ?_⟩
  rw [pop_get] at hx
  split at hx
  · rename_i hi
    split at hx
    · rename_i h0
      obtain rfl := Option.some.inj hx
      subst h0
      exact ⟨t, by rw [List.getElem?_set_self (by rw [List.length_dropLast, h.1]; omega)], ht⟩
    · rename_i h0
      obtain ⟨u, h1, h2⟩ := h.2 i x hx
      exact ⟨u, by rw [List.getElem?_set_ne (Ne.symm h0), List.getElem?_dropLast, if_pos (by rw [h.1]; omega)]; exact h1, h2⟩
  · cases hx
def rHPop (K : PySem.W.Frag) : List V → Hp → VK → Prop := fun xs H Q => ∃ (a : Addr) (us : List V) (es : List Ent), xs = [.ref a] ∧ H a = some (.lst us) ∧ QAt K H us es ∧ HeapL es ∧ 0 < es.length ∧
  ∀ us' es' t e, es[0]? = some e → EntAt K (upd H a (.lst us')) t e → QAt K (upd H a (.lst us')) us' es' → es'.length + 1 = es.length → (∀ x, x ∈ es ↔ x = e ∨ x ∈ es') → HeapL es' → Q (.ref t) (upd H a (.lst us'))
theorem cr_pop (hu : X.A.in1.units < cLine) : CallR X (.builtin "_heapq.heappop") (rHPop X.K) := by
  intro pins s σ H xs us0 Q I rv h
  obtain ⟨a, us, es, rfl, ha, hq, hh, hpos, q⟩ := h
  obtain ⟨u1, rfl, r1⟩ := rv.one
  cases r1
  refine call_fn_again kind_pop plain_pop entry_pop (args_pop _) ?_
  obtain ⟨z, its, n1, r, hlen, eo⟩ := I.lstM ha
  have hT : s.TypeIs (.ref a) "list" := ⟨_, eo, rfl⟩
  have hul := hq.1
  have h0 : es[0]? = some es[0] := List.getElem?_eq_getElem hpos
  obtain ⟨t0, ut0, et0⟩ := hq.at hpos
  have hlast : es.length - 1 < es.length := by omega
  obtain ⟨tl, utl, etl⟩ := hq.at hlast
  obtain ⟨v0, g0, rv0⟩ := r.get ut0
  obtain ⟨vl, gl, rvl⟩ := r.get utl
  cases rv0
  cases rvl
  have ebk : its.toArray.back? = some (Value.ref tl) := by
    rw [Array.back?_eq_getElem?, List.size_toArray, ← hlen, hul]
    simpa using gl
  unfold Builtin.«_heapq.heappop»
  show wpAny _ _ (_ >>= _) _ _ _
  refine wpAny_bind ?_
  refine wpAny_bind (wpAny_pure ?_)
  dsimp only
  refine wpAny_bind ?_
  show wpAny _ _ (isInstance _ _ >>= _) _ _ _
  refine wpAny_bind (wpAny_isInstance (b := true) hT (by rfl) ?_)
  rw [if_pos rfl]
  refine wpAny_pure ?_
  refine wpAny_pure ?_
  dsimp only
  refine wpAny_bind (wpAny_bind (wpAny_seqItems eo rfl (wpAny_pure ?_)))
  rw [ebk]
  dsimp only
  refine wpAny_bind ?_
  refine wpAny_updateSeq eo rfl ?_ (by rw [List.size_toArray]; omega) (by simp; omega)
  have I2 := I.lset (t' := s.toks) (f := (·.pop)) (its' := its.dropLast) (ys := us.dropLast) ha eo (by simp) (Vals.dropLast r) (by rw [List.length_dropLast]; omega)
  by_cases h1 : es.length = 1
  · rw [if_pos (by rw [List.size_toArray, ← hlen, hul, h1]; rfl)]
    refine wpAny_pure ?_
    have e0 : us.dropLast = [] := List.eq_nil_of_length_eq_zero (by rw [List.length_dropLast]; omega)
    rw [e0] at I2
    have etl' : EntAt X.K (upd H a (.lst [])) tl es[0] := by
      have : es[es.length - 1] = es[0] := by simp only [h1]
      rw [this] at etl
      exact etl.any ha
    refine ⟨.ref tl, _, I2, rfl, q [] [] tl es[0] h0 etl' ⟨rfl, fun i x hx => by simp at hx⟩ (by rw [h1]; rfl) (fun x => ?_) (fun j hj a b h1 h2 => by simp at h2)⟩
    constructor
    · intro hx
      obtain ⟨k, hk⟩ := List.mem_iff_getElem?.mp hx
      have hkl := (List.getElem?_eq_some_iff.mp hk).1
      obtain rfl : k = 0 := by omega
      rw [h0] at hk
      exact .inl (Option.some.inj hk).symm
    · rintro (rfl | hx)
      · exact List.getElem_mem hpos
      · cases hx
  · rw [if_neg (by rw [List.size_toArray, ← hlen, hul]; simpa using h1)]
    refine wpAny_bind ?_
    have g0' : its.toArray[0]? = some (Value.ref t0) := by simpa using g0
    show wpAny _ _ (match its.toArray[0]? with | some v => pure v | none => unsupported _) _ _ _
    rw [g0']
    refine wpAny_pure ?_
    obtain ⟨z2, its2, n2, r2, hlen2, eo2⟩ := I2.lstM upd_same
    refine wpAny_bind ?_
    refine wpAny_updateSeq eo2 rfl ?_ (by rw [List.size_toArray]; omega) (by simp; omega)
    have rl : RelV (V.ref tl) (Value.ref tl) := rfl
    have I3 := I2.lset (t' := s.toks) (f := (·.setIfInBounds 0 (Value.ref tl))) (its' := its2.set 0 (Value.ref tl)) (ys := us.dropLast.set 0 (V.ref tl)) upd_same eo2 (by simp) (r2.set rl 0) (by rw [List.length_set]; exact z2)
    rw [upd_upd] at I3
    have hgu : us.getLast? = some (V.ref tl) := by rw [List.getLast?_eq_getElem?, hul]; exact utl
    have hge : es.getLast? = some es[es.length - 1] := by rw [List.getLast?_eq_getElem?]; exact List.getElem?_eq_getElem hlast
    refine wpAny_pure ⟨plainId_quiet plain_sift _, ?_⟩
    refine sift_dn (es.length) 0 _ (es.dropLast.set 0 es[es.length - 1]) _ (by simp) I3 ((hq.pop hgu etl).any ha) (dn_pop hh) (by rw [List.length_set, List.length_dropLast]; omega) hu fun us' es' s' I' q' l' m' hh' => ?_
    rw [List.length_set, List.length_dropLast] at l'
    exact ⟨.ref t0, _, I', rfl, q us' es' t0 es[0] h0 (et0.any ha) q' (by omega) (fun x => (pop_mem h0 hge (by omega) x).trans (by rw [m'])) hh'⟩
end
end HQ
namespace HQ
open PySem PySem.Spec PyProof.Rows L2
theorem in1_units {k : Nat} {A : Around} (r : Room (k + 1) A) : A.in1.units < cLine := r.in1.units0
end HQ

namespace WY
open HQ
/-! limits x <= y + k, with a label each -/
abbrev Lim := Int × Int × Int × Int
def lx (r : Lim) : Int := r.1
def ly (r : Lim) : Int := r.2.1
def lk (r : Lim) : Int := r.2.2.1
def ll (r : Lim) : Int := r.2.2.2
def Feas (rs : List Lim) (n : Nat) (h : Int → Int) : Prop := ∀ i r, i < n → rs[i]? = some r → h (lx r) ≤ h (ly r) + lk r
def gx (rs : List Lim) (i : Nat) : Int := ((rs[i]?).map lx).getD 0
def gy (rs : List Lim) (i : Nat) : Int := ((rs[i]?).map ly).getD 0
def gk (rs : List Lim) (i : Nat) : Int := ((rs[i]?).map lk).getD 0
theorem gx_at {rs : List Lim} {i : Nat} {q : Lim} (h : rs[i]? = some q) : gx rs i = lx q := by unfold gx; rw [h]; rfl
theorem gy_at {rs : List Lim} {i : Nat} {q : Lim} (h : rs[i]? = some q) : gy rs i = ly q := by unfold gy; rw [h]; rfl
theorem gk_at {rs : List Lim} {i : Nat} {q : Lim} (h : rs[i]? = some q) : gk rs i = lk q := by unfold gk; rw [h]; rfl
/-- a ring of limits whose sum is below 0 -/
structure Ring (rs : List Lim) (ns : List Nat) : Prop where
  ne : ns ≠ []
  at' : ∀ i ∈ ns, i < rs.length
  nd : (ns.map (gx rs)).Nodup
  link : ∀ j i i', ns[j]? = some i → ns[(j + 1) % ns.length]? = some i' → gy rs i = gx rs i'
  sum : (ns.map (gk rs)).sum < 0
/-- what has fallen: place, new height, cause -/
abbrev Fal := Int × Int × Nat
structure FallI (rs : List Lim) (n : Nat) (r : Lim) (h : Int → Int) (ord : List Fal) (Q : List Ent) : Prop where
  nd : (ord.map (·.1)).Nodup
  a : ∀ j o, ord[j]? = some o → o.2.1 < h o.1 ∧ o.1 ≠ ly r ∧ ((o.2.2 = n ∧ o.1 = lx r ∧ o.2.1 = h (ly r) + lk r) ∨ (o.2.2 < n ∧ ∃ q, rs[o.2.2]? = some q ∧ lx q = o.1 ∧ ∃ (j' : Nat) (o' : Fal), j' < j ∧ ord[j']? = some o' ∧ o'.1 = ly q ∧ o.2.1 = o'.2.1 + lk q))
  b : ∀ e ∈ Q, e.1 < 0 ∧ e.2.1 ≠ ly r ∧ ∃ c : Nat, e.2.2 = (c : Int) ∧ ((c = n ∧ e.2.1 = lx r ∧ e.1 = h (ly r) + lk r - h (lx r)) ∨ (c < n ∧ ∃ q, rs[c]? = some q ∧ lx q = e.2.1 ∧ ∃ o' ∈ ord, o'.1 = ly q ∧ e.1 = o'.2.1 + lk q - h e.2.1))
  c : ∀ o ∈ ord, ∀ e ∈ Q, o.2.1 - h o.1 ≤ e.1
  d : ∀ o ∈ ord, ∀ i q, i < n → rs[i]? = some q → ly q = o.1 → h (lx q) ≤ o.2.1 + lk q ∨ (∃ o' ∈ ord, o'.1 = lx q ∧ o'.2.1 ≤ o.2.1 + lk q) ∨ ∃ e ∈ Q, e.2.1 = lx q ∧ e.1 ≤ o.2.1 + lk q - h (lx q)
  e : (∃ o ∈ ord, o.1 = lx r) ∨ (∃ e ∈ Q, e.2.1 = lx r)
/-- what is known of the fallen ones alone -/
structure FallA (rs : List Lim) (n : Nat) (r : Lim) (h : Int → Int) (ord : List Fal) : Prop where
  nd : (ord.map (·.1)).Nodup
  a : ∀ j o, ord[j]? = some o → o.2.1 < h o.1 ∧ o.1 ≠ ly r ∧ ((o.2.2 = n ∧ o.1 = lx r ∧ o.2.1 = h (ly r) + lk r) ∨ (o.2.2 < n ∧ ∃ q, rs[o.2.2]? = some q ∧ lx q = o.1 ∧ ∃ (j' : Nat) (o' : Fal), j' < j ∧ ord[j']? = some o' ∧ o'.1 = ly q ∧ o.2.1 = o'.2.1 + lk q))
theorem FallI.A {rs : List Lim} {n : Nat} {r : Lim} {h : Int → Int} {ord : List Fal} {Q : List Ent} (H : FallI rs n r h ord Q) : FallA rs n r h ord := ⟨H.nd, H.a⟩
theorem fall_A {rs : List Lim} {n : Nat} {r : Lim} {h : Int → Int} {ord : List Fal} {Q : List Ent} {e : Ent} {c : Nat} (H : FallI rs n r h ord Q) (he : e ∈ Q) (hc : e.2.2 = (c : Int)) (hp : ∀ o ∈ ord, o.1 ≠ e.2.1) : FallA rs n r h (ord ++ [(e.2.1, h e.2.1 + e.1, c)]) := by
  obtain ⟨b1, b2, c', b3, b4⟩ := H.b e he
  obtain rfl : c' = c := by omega
  refine ⟨?_, fun j o hj => ?_⟩
  · rw [List.map_append, List.nodup_append]
    refine ⟨H.nd, by simp, fun a ha b hb z => ?_⟩
    obtain ⟨o, ho, rfl⟩ := List.mem_map.mp ha
    rw [List.map_cons, List.map_nil, List.mem_singleton] at hb
    exact hp o ho (by rw [z, hb])
  · by_cases hjl : j < ord.length
    · rw [List.getElem?_append_left hjl] at hj
      obtain ⟨a1, a2, a3⟩ := H.a j o hj
      refine ⟨a1, a2, a3.imp id fun ⟨z1, q, z2, z3, j', o', z4, z5, z6, z7⟩ => ⟨z1, q, z2, z3, j', o', z4, ?_, z6, z7⟩⟩
      rw [List.getElem?_append_left (by omega)]
      exact z5
    · have hj2 := (List.getElem?_eq_some_iff.mp hj).1
      rw [List.length_append, List.length_singleton] at hj2
      obtain rfl : j = ord.length := by omega
      rw [List.getElem?_append_right (Nat.le_refl _), Nat.sub_self] at hj
      obtain rfl := Option.some.inj hj
      refine ⟨by show h e.2.1 + e.1 < h e.2.1; omega, b2, ?_⟩
      rcases b4 with ⟨z1, z2, z3⟩ | ⟨z1, q, z2, z3, o', z4, z5, z6⟩
      · exact .inl ⟨z1, z2, by show h e.2.1 + e.1 = _; rw [z2, z3]; omega⟩
      · obtain ⟨j', hj'⟩ := List.mem_iff_getElem?.mp z4
        have hjl' := (List.getElem?_eq_some_iff.mp hj').1
        exact .inr ⟨z1, q, z2, z3, j', o', hjl', by rw [List.getElem?_append_left hjl']; exact hj', z5, by show h e.2.1 + e.1 = _; rw [z6]; omega⟩
theorem fall_start {rs : List Lim} {n : Nat} {r : Lim} {h : Int → Int} {e : Ent} (he : e = (h (ly r) + lk r - h (lx r), lx r, (n : Int))) (h0 : h (lx r) > h (ly r) + lk r) (hxy : lx r ≠ ly r) {Q : List Ent} (hQ : ∀ x, x ∈ Q ↔ x = e) : FallI rs n r h [] Q := by
  refine ⟨List.nodup_nil, fun j o hj => by simp at hj, fun x hx => ?_, fun o ho => by simp at ho, fun o ho => by simp at ho, .inr ⟨e, (hQ e).mpr rfl, by rw [he]⟩⟩
  rw [(hQ x).mp hx, he]
  exact ⟨by show h (ly r) + lk r - h (lx r) < 0; omega, hxy, n, rfl, .inl ⟨rfl, rfl, rfl⟩⟩
/-- an entry whose place has fallen already -/
theorem fall_skip {rs : List Lim} {n : Nat} {r : Lim} {h : Int → Int} {ord : List Fal} {Q Q' : List Ent} {e : Ent} (H : FallI rs n r h ord Q) (hQ : ∀ x, x ∈ Q ↔ x = e ∨ x ∈ Q') (hp : ∃ o ∈ ord, o.1 = e.2.1) : FallI rs n r h ord Q' := by
  obtain ⟨o0, ho0, hp0⟩ := hp
  have sub : ∀ x ∈ Q', x ∈ Q := fun x hx => (hQ x).mpr (.inr hx)
  have hm := H.c o0 ho0 e ((hQ e).mpr (.inl rfl))
  refine ⟨H.nd, H.a, fun x hx => H.b x (sub x hx), fun o ho x hx => H.c o ho x (sub x hx), fun o ho i q hi hq hy => ?_, ?_⟩
  · rcases H.d o ho i q hi hq hy with z | z | ⟨x, hx, h1, h2⟩
    · exact .inl z
    · exact .inr (.inl z)
    · rcases (hQ x).mp hx with rfl | hx'
      · refine .inr (.inl ⟨o0, ho0, by rw [hp0, h1], ?_⟩)
        rw [hp0, h1] at hm
        omega
      · exact .inr (.inr ⟨x, hx', h1, h2⟩)
  · rcases H.e with z | ⟨x, hx, h1⟩
    · exact .inl z
    · rcases (hQ x).mp hx with rfl | hx'
      · exact .inl ⟨o0, ho0, by rw [hp0, h1]⟩
      · exact .inr ⟨x, hx', h1⟩
/-- the pulls of a place: who leans on it and must fall -/
def PullsOf (rs : List Lim) (n : Nat) (h : Int → Int) (ord : List Fal) (o : Fal) (ps : List Ent) : Prop :=
  (∀ e ∈ ps, ∃ (i : Nat) (q : Lim), i < n ∧ rs[i]? = some q ∧ ly q = o.1 ∧ e = (o.2.1 + lk q - h (lx q), lx q, (i : Int)) ∧ e.1 < 0 ∧ ∀ o' ∈ ord, o'.1 ≠ lx q) ∧
  ∀ (i : Nat) (q : Lim), i < n → rs[i]? = some q → ly q = o.1 → o.2.1 + lk q - h (lx q) < 0 → (∀ o' ∈ ord, o'.1 ≠ lx q) → (o.2.1 + lk q - h (lx q), lx q, (i : Int)) ∈ ps
/-- a place falls, and its pulls are put -/
theorem fall_next {rs : List Lim} {n : Nat} {r : Lim} {h : Int → Int} {ord : List Fal} {Q Q' Q2 : List Ent} {e : Ent} {c : Nat} {ps : List Ent} (hf : Feas rs n h) (H : FallI rs n r h ord Q) (hQ : ∀ x, x ∈ Q ↔ x = e ∨ x ∈ Q') (hmin : ∀ x ∈ Q, e.1 ≤ x.1) (hc : e.2.2 = (c : Int)) (hp : ∀ o ∈ ord, o.1 ≠ e.2.1)
    (hps : PullsOf rs n h (ord ++ [(e.2.1, h e.2.1 + e.1, c)]) (e.2.1, h e.2.1 + e.1, c) ps) (hny : ∀ x ∈ ps, x.2.1 ≠ ly r) (hQ2 : ∀ x, x ∈ Q2 ↔ x ∈ Q' ∨ x ∈ ps) : FallI rs n r h (ord ++ [(e.2.1, h e.2.1 + e.1, c)]) Q2 := by
  have he : e ∈ Q := (hQ e).mpr (.inl rfl)
  obtain ⟨b1, b2, c', b3, b4⟩ := H.b e he
  obtain rfl : c' = c := by omega
  have sub : ∀ x ∈ Q', x ∈ Q := fun x hx => (hQ x).mpr (.inr hx)
  refine ⟨?_, fun j o hj => ?_, fun x hx => ?_, fun o ho x hx => ?_, fun o ho i q hi hq hy => ?_, ?_⟩
  · rw [List.map_append, List.nodup_append]
    refine ⟨H.nd, by simp, fun a ha b hb z => ?_⟩
    obtain ⟨o, ho, rfl⟩ := List.mem_map.mp ha
    rw [List.map_cons, List.map_nil, List.mem_singleton] at hb
    exact hp o ho (by rw [z, hb])
  · by_cases hjl : j < ord.length
    · rw [List.getElem?_append_left hjl] at hj
      obtain ⟨a1, a2, a3⟩ := H.a j o hj
      refine ⟨a1, a2, a3.imp id fun ⟨z1, q, z2, z3, j', o', z4, z5, z6, z7⟩ => ⟨z1, q, z2, z3, j', o', z4, ?_, z6, z7⟩⟩
      rw [List.getElem?_append_left (by omega)]
      exact z5
    · have hj2 := (List.getElem?_eq_some_iff.mp hj).1
      rw [List.length_append, List.length_singleton] at hj2
      obtain rfl : j = ord.length := by omega
      rw [List.getElem?_append_right (Nat.le_refl _), Nat.sub_self] at hj
      obtain rfl := Option.some.inj hj
      refine ⟨by show h e.2.1 + e.1 < h e.2.1; omega, b2, ?_⟩
      rcases b4 with ⟨z1, z2, z3⟩ | ⟨z1, q, z2, z3, o', z4, z5, z6⟩
      · exact .inl ⟨z1, z2, by show h e.2.1 + e.1 = _; rw [z2, z3]; omega⟩
      · obtain ⟨j', hj'⟩ := List.mem_iff_getElem?.mp z4
        have hjl' := (List.getElem?_eq_some_iff.mp hj').1
        exact .inr ⟨z1, q, z2, z3, j', o', hjl', by rw [List.getElem?_append_left hjl']; exact hj', z5, by show h e.2.1 + e.1 = _; rw [z6]; omega⟩
  · rcases (hQ2 x).mp hx with hx' | hx'
    · obtain ⟨d1, d2, c2, d3, d4⟩ := H.b x (sub x hx')
      exact ⟨d1, d2, c2, d3, d4.imp id fun ⟨z1, q, z2, z3, o', z4, z5⟩ => ⟨z1, q, z2, z3, o', List.mem_append_left _ z4, z5⟩⟩
    · obtain ⟨i, q, hi, hq, hy, ex, hneg, _⟩ := hps.1 x hx'
      refine ⟨hneg, hny x hx', i, by rw [ex], .inr ⟨hi, q, hq, by rw [ex], _, List.mem_append_right _ (List.mem_singleton.mpr rfl), hy.symm, ?_⟩⟩
      rw [ex]
  · have hfal : ∀ x ∈ Q2, e.1 ≤ x.1 := fun x hx => by
      rcases (hQ2 x).mp hx with hx' | hx'
      · exact hmin x (sub x hx')
      · obtain ⟨i, q, hi, hq, hy, ex, hneg, _⟩ := hps.1 x hx'
        have := hf i q hi hq
        rw [ex]
        show e.1 ≤ h e.2.1 + e.1 + lk q - h (lx q)
        rw [hy] at this
        show e.1 ≤ h e.2.1 + e.1 + lk q - h (lx q)
        have this2 : h (lx q) ≤ h e.2.1 + lk q := this
        omega
    rcases List.mem_append.mp ho with ho' | ho'
    · exact Int.le_trans (H.c o ho' e he) (hfal x hx)
    · rw [List.mem_singleton.mp ho']
      have := hfal x hx
      show h e.2.1 + e.1 - h e.2.1 ≤ x.1
      omega
  · rcases List.mem_append.mp ho with ho' | ho'
    · rcases H.d o ho' i q hi hq hy with z | ⟨o', z1, z2⟩ | ⟨x, hx, h1, h2⟩
      · exact .inl z
      · exact .inr (.inl ⟨o', List.mem_append_left _ z1, z2⟩)
      · rcases (hQ x).mp hx with rfl | hx'
        · refine .inr (.inl ⟨_, List.mem_append_right _ (List.mem_singleton.mpr rfl), h1, ?_⟩)
          show h x.2.1 + x.1 ≤ _
          rw [h1]
          omega
        · exact .inr (.inr ⟨x, (hQ2 x).mpr (.inl hx'), h1, h2⟩)
    · obtain rfl := List.mem_singleton.mp ho'
      have hy' : ly q = e.2.1 := hy
      have hfq := hf i q hi hq
      rw [hy'] at hfq
      by_cases hge : h e.2.1 + e.1 + lk q - h (lx q) < 0
      · by_cases hin : ∀ o' ∈ ord ++ [(e.2.1, h e.2.1 + e.1, c')], o'.1 ≠ lx q
        · exact .inr (.inr ⟨_, (hQ2 _).mpr (.inr (hps.2 i q hi hq hy hge hin)), rfl, Int.le_refl _⟩)
        · have : ∃ o' ∈ ord ++ [(e.2.1, h e.2.1 + e.1, c')], o'.1 = lx q := by
            refine Classical.byContradiction fun hn => hin fun o' ho'' z => hn ⟨o', ho'', z⟩
          obtain ⟨o', ho'', hx'⟩ := this
          refine .inr (.inl ⟨o', ho'', hx', ?_⟩)
          rcases List.mem_append.mp ho'' with z | z
          · have := H.c o' z e he
            rw [hx'] at this
            show o'.2.1 ≤ h e.2.1 + e.1 + lk q
            omega
          · rw [List.mem_singleton.mp z] at hx' ⊢
            have hx2 : e.2.1 = lx q := hx'
            rw [← hx2] at hfq
            show h e.2.1 + e.1 ≤ h e.2.1 + e.1 + lk q
            omega
      · refine .inl ?_
        show h (lx q) ≤ h e.2.1 + e.1 + lk q
        omega
  · rcases H.e with ⟨o, z1, z2⟩ | ⟨x, hx, h1⟩
    · exact .inl ⟨o, List.mem_append_left _ z1, z2⟩
    · rcases (hQ x).mp hx with rfl | hx'
      · exact .inl ⟨_, List.mem_append_right _ (List.mem_singleton.mpr rfl), h1⟩
      · exact .inr ⟨x, (hQ2 x).mpr (.inl hx'), h1⟩
/-- the new heights -/
def newH (ord : List Fal) (h : Int → Int) (p : Int) : Int := ((ord.find? fun o => o.1 == p).map (·.2.1)).getD (h p)
theorem newH_at {ord : List Fal} {h : Int → Int} (nd : (ord.map (·.1)).Nodup) {o : Fal} (ho : o ∈ ord) : newH ord h o.1 = o.2.1 := by
  unfold newH
  have : ord.find? (fun x => x.1 == o.1) = some o := by
    induction ord with
    | nil => cases ho
    | cons x xs ih =>
      rw [List.map_cons, List.nodup_cons] at nd
      rw [List.find?_cons]
      rcases List.mem_cons.mp ho with rfl | hm
      · simp
      · have hne : ¬ x.1 = o.1 := fun z => nd.1 (List.mem_map.mpr ⟨o, hm, z.symm⟩)
        rw [show (x.1 == o.1) = false from beq_eq_false_iff_ne.mpr hne]
        exact ih nd.2 hm
  rw [this]
  rfl
theorem newH_no {ord : List Fal} {h : Int → Int} {p : Int} (hp : ∀ o ∈ ord, o.1 ≠ p) : newH ord h p = h p := by
  unfold newH
  have : ord.find? (fun x => x.1 == p) = none := List.find?_eq_none.mpr fun o ho => by simpa using hp o ho
  rw [this]
  rfl
theorem fall_end {rs : List Lim} {n : Nat} {r : Lim} {h : Int → Int} {ord : List Fal} (hr : rs[n]? = some r) (hf : Feas rs n h) (H : FallI rs n r h ord []) : Feas rs (n + 1) (newH ord h) := by
  have hle : ∀ p, newH ord h p ≤ h p := fun p => by
    by_cases hp : ∃ o ∈ ord, o.1 = p
    · obtain ⟨o, ho, rfl⟩ := hp
      rw [newH_at H.nd ho]
      obtain ⟨j, hj⟩ := List.mem_iff_getElem?.mp ho
      exact Int.le_of_lt (H.a j o hj).1
    · rw [newH_no fun o ho z => hp ⟨o, ho, z⟩]
      exact Int.le_refl _
  intro i q hi hq
  by_cases hin : i = n
  · subst hin
    rw [hr] at hq
    obtain rfl := Option.some.inj hq
    have hy : newH ord h (ly r) = h (ly r) := newH_no fun o ho z => by
      obtain ⟨j, hj⟩ := List.mem_iff_getElem?.mp ho
      exact (H.a j o hj).2.1 z
    rcases H.e with ⟨o, ho, hx⟩ | ⟨e, he, _⟩
    · rw [← hx, newH_at H.nd ho, hy]
      obtain ⟨j, hj⟩ := List.mem_iff_getElem?.mp ho
      rcases (H.a j o hj).2.2 with ⟨_, _, z⟩ | ⟨z, q, hq, hx2, _⟩
      · omega
      · -- x has another cause: then it is not the first one, yet the first one is x
        have h0 : 0 < ord.length := by have := (List.getElem?_eq_some_iff.mp hj).1; omega
        obtain ⟨_, _, z3⟩ := H.a 0 _ (List.getElem?_eq_getElem h0)
        rcases z3 with ⟨_, z4, z5⟩ | ⟨_, _, _, _, j', _, z4, _⟩
        · have hm : ord[0] ∈ ord := List.getElem_mem h0
          have e1 := newH_at (h := h) H.nd hm
          have e2 := newH_at (h := h) H.nd ho
          rw [z4] at e1
          rw [hx] at e2
          rw [← e2, e1]
          omega
        · omega
    · cases he
  · have hi' : i < n := by omega
    have hfq := hf i q hi' hq
    by_cases hp : ∃ o ∈ ord, o.1 = ly q
    · obtain ⟨o, ho, hy⟩ := hp
      have e1 := newH_at (h := h) H.nd ho
      rw [hy] at e1
      rw [e1]
      rcases H.d o ho i q hi' hq hy.symm with z | ⟨o', ho', hx, z⟩ | ⟨e, he, _⟩
      · exact Int.le_trans (hle _) z
      · rw [← hx, newH_at H.nd ho']
        exact z
      · cases he
    · rw [newH_no fun o ho z => hp ⟨o, ho, z⟩]
      exact Int.le_trans (hle _) hfq
end WY

namespace WY
open HQ
/-! the ring that is told -/
structure RingI (rs : List Lim) (n : Nat) (r : Lim) (h : Int → Int) (ord : List Fal) (acc : List Nat) (cause t : Nat) : Prop where
  acc0 : ∃ rest, acc = n :: rest ∧ ∀ o : Fal, ord[t]? = some o → (rest.map (gk rs)).sum + gk rs cause + o.2.1 < h (ly r)
  lt : ∀ i ∈ acc ++ [cause], i < rs.length
  link : ∀ j i i', (acc ++ [cause])[j]? = some i → (acc ++ [cause])[j + 1]? = some i' → gy rs i = gx rs i'
  nd : ((acc ++ [cause]).map (gx rs)).Nodup
  head : ∀ z ∈ (acc ++ [cause]).map (gx rs), z = lx r ∨ z = ly r ∨ ∃ t' o, t < t' ∧ ord[t']? = some o ∧ o.1 = z
  last : ∃ o, ord[t]? = some o ∧ o.1 = gy rs cause
theorem x_val {rs : List Lim} {n : Nat} {r : Lim} {h : Int → Int} {ord : List Fal} (H : FallA rs n r h ord) {o : Fal} (ho : o ∈ ord) (hx : o.1 = lx r) : o.2.1 = h (ly r) + lk r := by
  obtain ⟨j, hj⟩ := List.mem_iff_getElem?.mp ho
  have h0 : 0 < ord.length := by have := (List.getElem?_eq_some_iff.mp hj).1; omega
  obtain ⟨_, _, z3⟩ := H.a 0 _ (List.getElem?_eq_getElem h0)
  rcases z3 with ⟨_, z4, z5⟩ | ⟨_, _, _, _, j', _, z4, _⟩
  · have e1 := newH_at (h := h) H.nd (List.getElem_mem h0)
    have e2 := newH_at (h := h) H.nd ho
    rw [z4] at e1
    rw [hx] at e2
    rw [← e2, e1]
    exact z5
  · omega
theorem ring_start {rs : List Lim} {n : Nat} {r : Lim} {h : Int → Int} {ord : List Fal} {Q : List Ent} (hr : rs[n]? = some r) (hxy : lx r ≠ ly r) {t i : Nat} {o : Fal} {q : Lim} (ho : ord[t]? = some o) (hi : i < n) (hq : rs[i]? = some q) (hy : ly q = o.1) (hx : lx q = ly r) (hs : o.2.1 + lk q - h (ly r) < 0) : RingI rs n r h ord [n] i t := by
  have hn := (List.getElem?_eq_some_iff.mp hr).1
  refine ⟨⟨[], rfl, fun o' ho' => ?_⟩, fun j hj => ?_, fun j a b ha hb => ?_, ?_, fun z hz => ?_, ⟨o, ho, by rw [gy_at hq, hy]⟩⟩
  · rw [ho] at ho'
    obtain rfl := Option.some.inj ho'
    rw [gk_at hq]
    show (0 : Int) + lk q + o.2.1 < _
    omega
  · simp at hj
    rcases hj with rfl | rfl <;> omega
  · match j, ha, hb with
    | 0, ha, hb =>
      simp at ha hb
      subst ha hb
      rw [gy_at hr, gx_at hq, hx]
    | j + 1, ha, hb => simp at hb
  · simp only [List.cons_append, List.nil_append, List.map_cons, List.map_nil, gx_at hr, gx_at hq, hx]
    simp
    exact hxy
  · simp only [List.cons_append, List.nil_append, List.map_cons, List.map_nil, gx_at hr, gx_at hq, hx, List.mem_cons, List.not_mem_nil, or_false] at hz
    exact hz.imp id .inl
theorem ring_step {rs : List Lim} {n : Nat} {r : Lim} {h : Int → Int} {ord : List Fal} (H : FallA rs n r h ord) {acc : List Nat} {cause t : Nat} {o : Fal} (I : RingI rs n r h ord acc cause t) (hn : n < rs.length) (ho : ord[t]? = some o) (hne : o.1 ≠ lx r) : ∃ t', t' < t ∧ RingI rs n r h ord (acc ++ [cause]) o.2.2 t' := by
  obtain ⟨a1, a2, a3⟩ := H.a t o ho
  obtain ⟨o1, hl1, hl2⟩ := I.last
  rw [ho] at hl1
  obtain rfl := Option.some.inj hl1
  rcases a3 with ⟨_, z, _⟩ | ⟨hc, q, hq, hx, t', o', ht', ho', hy, hv⟩
  · exact absurd z hne
  obtain ⟨rest, ea, hsum⟩ := I.acc0
  refine ⟨t', ht', ⟨rest ++ [cause], by rw [ea]; rfl, fun o2 ho2 => ?_⟩, fun i hi => ?_, fun j i i' hi hi' => ?_, ?_, fun z hz => ?_, ⟨o', ho', by rw [gy_at hq, hy]⟩⟩
  · rw [ho'] at ho2
    obtain rfl := Option.some.inj ho2
    have := hsum o ho
    rw [gk_at hq, List.map_append, List.sum_append]
    simp only [List.map_cons, List.map_nil, List.sum_cons, List.sum_nil]
    omega
  · rcases List.mem_append.mp hi with z | z
    · exact I.lt i z
    · rw [List.mem_singleton.mp z]
      omega
  · have hl := (List.getElem?_eq_some_iff.mp hi').1
    rw [List.length_append, List.length_singleton] at hl
    rw [List.getElem?_append_left (by omega)] at hi
    by_cases hj : j + 1 < (acc ++ [cause]).length
    · rw [List.getElem?_append_left hj] at hi'
      exact I.link j i i' hi hi'
    · have hj2 : j + 1 = (acc ++ [cause]).length := by omega
      rw [List.getElem?_append_right (by omega), hj2, Nat.sub_self] at hi'
      obtain rfl := Option.some.inj hi'
      have hja : j = acc.length := by
        rw [List.length_append, List.length_singleton] at hj2
        omega
      rw [hja, List.getElem?_append_right (Nat.le_refl _), Nat.sub_self] at hi
      obtain rfl := Option.some.inj hi
      rw [gx_at hq, hx, hl2]
  · rw [List.map_append, List.nodup_append]
    refine ⟨I.nd, by simp, fun a ha b hb e => ?_⟩
    simp only [List.map_cons, List.map_nil, List.mem_singleton] at hb
    rw [gx_at hq, hx] at hb
    rw [hb] at e
    subst e
    rcases I.head _ ha with z | z | ⟨t2, o2, g1, g2, g3⟩
    · exact hne z
    · exact a2 z
    · have h1 : (ord.map (·.1))[t2]? = some o.1 := by rw [List.getElem?_map, g2]; exact congrArg some g3
      have h2 : (ord.map (·.1))[t]? = some o.1 := by rw [List.getElem?_map, ho]; rfl
      have := (List.getElem?_inj (by rw [List.length_map]; exact (List.getElem?_eq_some_iff.mp g2).1) H.nd).mp (h1.trans h2.symm)
      omega
  · rw [List.map_append] at hz
    rcases List.mem_append.mp hz with z | z
    · rcases I.head _ z with z | z | ⟨t2, o2, g1, g2, g3⟩
      · exact .inl z
      · exact .inr (.inl z)
      · exact .inr (.inr ⟨t2, o2, by omega, g2, g3⟩)
    · simp only [List.map_cons, List.map_nil, List.mem_singleton] at z
      rw [gx_at hq, hx] at z
      exact .inr (.inr ⟨t, o, ht', ho, z.symm⟩)
theorem ring_end {rs : List Lim} {n : Nat} {r : Lim} {h : Int → Int} {ord : List Fal} (hr : rs[n]? = some r) (H : FallA rs n r h ord) {acc : List Nat} {cause t : Nat} {o : Fal} (I : RingI rs n r h ord acc cause t) (ho : ord[t]? = some o) (he : o.1 = lx r) : Ring rs (acc ++ [cause]) := by
  obtain ⟨rest, ea, hsum⟩ := I.acc0
  obtain ⟨o1, hl1, hl2⟩ := I.last
  rw [ho] at hl1
  obtain rfl := Option.some.inj hl1
  have hv := x_val H (List.mem_of_getElem? ho) he
  refine ⟨by simp, I.lt, I.nd, fun j i i' hi hi' => ?_, ?_⟩
  · have hl := (List.getElem?_eq_some_iff.mp hi).1
    by_cases hj : j + 1 < (acc ++ [cause]).length
    · rw [Nat.mod_eq_of_lt hj] at hi'
      exact I.link j i i' hi hi'
    · have hj2 : j + 1 = (acc ++ [cause]).length := by omega
      rw [hj2, Nat.mod_self, ea] at hi'
      obtain rfl := Option.some.inj hi'
      have hja : j = acc.length := by
        rw [List.length_append, List.length_singleton] at hj2
        omega
      rw [hja, List.getElem?_append_right (Nat.le_refl _), Nat.sub_self] at hi
      obtain rfl := Option.some.inj hi
      rw [gx_at hr, ← hl2, he]
  · have := hsum o ho
    rw [ea, List.map_append, List.sum_append]
    simp only [List.map_cons, List.map_nil, List.sum_cons, List.sum_nil]
    rw [gk_at hr]
    omega
/-- where all limits hold there is no ring -/
theorem no_ring {rs : List Lim} {h : Int → Int} (hf : Feas rs rs.length h) {ns : List Nat} (R : Ring rs ns) : False := by
  obtain ⟨hne, hat, _, hl, hs⟩ := R
  cases ns with
  | nil => exact hne rfl
  | cons a rest =>
    have e1 : ∀ xs : List Nat, (∀ i ∈ xs, i < rs.length) → (xs.map fun i => h (gx rs i)).sum ≤ (xs.map fun i => h (gy rs i)).sum + (xs.map (gk rs)).sum := by
      intro xs
      induction xs with
      | nil => intro _; simp
      | cons i xs ih =>
        intro hx
        have hi := hx i List.mem_cons_self
        have := hf i _ hi (List.getElem?_eq_getElem hi)
        have ih2 := ih fun j hj => hx j (List.mem_cons_of_mem _ hj)
        simp only [List.map_cons, List.sum_cons]
        rw [gx_at (List.getElem?_eq_getElem hi), gy_at (List.getElem?_eq_getElem hi), gk_at (List.getElem?_eq_getElem hi)]
        omega
    have e2 : ((a :: rest).map fun i => h (gy rs i)) = (rest.map fun i => h (gx rs i)) ++ [h (gx rs a)] := by
      refine List.ext_getElem? fun j => ?_
      rw [List.getElem?_map]
      by_cases hj : j < (a :: rest).length
      · have hi := List.getElem?_eq_getElem hj
        rw [hi]
        by_cases hj2 : j < rest.length
        · have hm : (j + 1) % (a :: rest).length = j + 1 := Nat.mod_eq_of_lt (by rw [List.length_cons]; omega)
          have := hl j _ rest[j] hi (by rw [hm, List.getElem?_cons_succ]; exact List.getElem?_eq_getElem hj2)
          rw [List.getElem?_append_left (by rw [List.length_map]; exact hj2), List.getElem?_map, List.getElem?_eq_getElem hj2]
          show some (h (gy rs _)) = some (h (gx rs _))
          rw [this]
        · have hj3 : j = rest.length := by rw [List.length_cons] at hj; omega
          have hm : (j + 1) % (a :: rest).length = 0 := by rw [List.length_cons, hj3, Nat.mod_self]
          have := hl j _ a hi (by rw [hm]; rfl)
          rw [List.getElem?_append_right (by rw [List.length_map]; omega), List.length_map, show j - rest.length = 0 by omega]
          show some (h (gy rs _)) = some (h (gx rs a))
          rw [this]
      · rw [List.getElem?_eq_none (by omega), List.getElem?_eq_none (by rw [List.length_append, List.length_map, List.length_singleton]; rw [List.length_cons] at hj; omega)]
        rfl
    have e3 := e1 (a :: rest) hat
    rw [e2, List.sum_append] at e3
    simp only [List.map_cons, List.sum_cons, List.sum_nil] at e3
    simp only [List.map_cons, List.sum_cons] at hs
    omega
end WY

namespace WY
/-! settling turn by turn, as the law does it -/
def stp (h : Int → Int) (r : Lim) : Int → Int := fun p => if h (lx r) > h (ly r) + lk r ∧ p = lx r then h (ly r) + lk r else h p
def pass (rs : List Lim) (h : Int → Int) : Int → Int := rs.foldl stp h
def turns (rs : List Lim) : Nat → Int → Int
  | 0 => fun _ => 0
  | t + 1 => pass rs (turns rs t)
def FeasL (rs : List Lim) (h : Int → Int) : Prop := ∀ r ∈ rs, h (lx r) ≤ h (ly r) + lk r
theorem feasL_iff (rs : List Lim) (h : Int → Int) : Feas rs rs.length h ↔ FeasL rs h := by
  constructor
  · intro H r hr
    obtain ⟨i, hi⟩ := List.mem_iff_getElem?.mp hr
    exact H i r (List.getElem?_eq_some_iff.mp hi).1 hi
  · intro H i r _ hr
    exact H r (List.mem_of_getElem? hr)
theorem stp_le (h : Int → Int) (r : Lim) (p : Int) : stp h r p ≤ h p := by
  unfold stp
  split
  · rename_i hc
    rw [hc.2]
    omega
  · exact Int.le_refl _
theorem stp_rel (h : Int → Int) (r : Lim) : stp h r (lx r) ≤ h (ly r) + lk r := by
  unfold stp
  split
  · exact Int.le_refl _
  · rename_i hc
    have : ¬ h (lx r) > h (ly r) + lk r := fun z => hc ⟨z, rfl⟩
    omega
theorem pass_le : ∀ (rs : List Lim) (h : Int → Int) (p : Int), pass rs h p ≤ h p
  | [], h, p => Int.le_refl _
  | r :: rs, h, p => Int.le_trans (pass_le rs (stp h r) p) (stp_le h r p)
theorem pass_rel : ∀ (rs : List Lim) (h : Int → Int) (r : Lim), r ∈ rs → pass rs h (lx r) ≤ h (ly r) + lk r
  | q :: rs, h, r, hr => by
    rcases List.mem_cons.mp hr with rfl | hm
    · exact Int.le_trans (pass_le rs (stp h r) (lx r)) (stp_rel h r)
    · have := pass_rel rs (stp h q) r hm
      have h2 := stp_le h q (ly r)
      show pass rs (stp h q) (lx r) ≤ _
      omega
theorem stp_low {rs : List Lim} {g h : Int → Int} {r : Lim} (hg : FeasL rs g) (hr : r ∈ rs) (hl : ∀ p, g p ≤ h p) (p : Int) : g p ≤ stp h r p := by
  unfold stp
  split
  · rename_i hc
    rw [hc.2]
    have h1 := hg r hr
    have h2 := hl (ly r)
    omega
  · exact hl p
theorem pass_low {rs : List Lim} {g : Int → Int} (hg : FeasL rs g) : ∀ (qs : List Lim) (h : Int → Int), (∀ q ∈ qs, q ∈ rs) → (∀ p, g p ≤ h p) → ∀ p, g p ≤ pass qs h p
  | [], h, _, hl, p => hl p
  | q :: qs, h, hs, hl, p => pass_low hg qs (stp h q) (fun x hx => hs x (List.mem_cons_of_mem _ hx)) (stp_low hg (hs q List.mem_cons_self) hl) p
theorem turns_low {rs : List Lim} {g : Int → Int} (hg : FeasL rs g) (h0 : ∀ p, g p ≤ 0) : ∀ t p, g p ≤ turns rs t p
  | 0, p => h0 p
  | t + 1, p => pass_low hg rs _ (fun _ h => h) (turns_low hg h0 t) p
theorem turns_le0 (rs : List Lim) : ∀ t p, turns rs t p ≤ 0
  | 0, p => Int.le_refl _
  | t + 1, p => Int.le_trans (pass_le rs _ p) (turns_le0 rs t p)
theorem turns_down (rs : List Lim) (t p) : turns rs (t + 1) p ≤ turns rs t p := pass_le rs _ p
/-- the law's own pass changes nothing exactly where all limits hold -/
theorem feas_pass {rs : List Lim} {h : Int → Int} (hf : FeasL rs h) : pass rs h = h := by
  have : ∀ qs : List Lim, (∀ q ∈ qs, q ∈ rs) → pass qs h = h := by
    intro qs
    induction qs with
    | nil => intro _; rfl
    | cons q qs ih =>
      intro hs
      have e : stp h q = h := by
        funext p
        unfold stp
        rw [if_neg]
        rintro ⟨z, _⟩
        have := hf q (hs q List.mem_cons_self)
        omega
      show pass qs (stp h q) = h
      rw [e]
      exact ih fun x hx => hs x (List.mem_cons_of_mem _ hx)
  exact this rs fun _ h => h
def sumOn (ps : List Int) (h : Int → Int) : Int := (ps.map h).sum
theorem sumOn_le : ∀ (ps : List Int) (f g : Int → Int), (∀ p, f p ≤ g p) → sumOn ps f ≤ sumOn ps g
  | [], f, g, _ => Int.le_refl _
  | p :: ps, f, g, h => by
    have := sumOn_le ps f g h
    have h2 := h p
    show f p + sumOn ps f ≤ g p + sumOn ps g
    omega
theorem sumOn_lt : ∀ (ps : List Int) (f g : Int → Int), (∀ p, f p ≤ g p) → (∃ p ∈ ps, f p < g p) → sumOn ps f < sumOn ps g
  | [], f, g, _, ⟨p, hp, _⟩ => by cases hp
  | q :: ps, f, g, h, ⟨p, hp, hlt⟩ => by
    have h2 := h q
    show f q + sumOn ps f < g q + sumOn ps g
    rcases List.mem_cons.mp hp with rfl | hm
    · have := sumOn_le ps f g h
      omega
    · have := sumOn_lt ps f g h ⟨p, hm, hlt⟩
      omega
/-- settling comes to an end -/
theorem comes_end {rs : List Lim} {ps : List Int} {g : Int → Int} (hg : FeasL rs g) (h0 : ∀ p, g p ≤ 0) (hp : ∀ r ∈ rs, lx r ∈ ps ∧ ly r ∈ ps) : ∃ t, FeasL rs (turns rs t) := by
  have key : ∀ (n t : Nat), sumOn ps (turns rs t) - sumOn ps g ≤ (n : Int) → ∃ t, FeasL rs (turns rs t) := by
    intro n
    induction n with
    | zero =>
      intro t hs
      refine ⟨t, fun r hr => ?_⟩
      refine Classical.byContradiction fun hn => ?_
      have hlt : pass rs (turns rs t) (lx r) < turns rs t (lx r) := by
        have := pass_rel rs (turns rs t) r hr
        omega
      have h1 := sumOn_lt ps (turns rs (t + 1)) (turns rs t) (turns_down rs t) ⟨lx r, (hp r hr).1, hlt⟩
      have h2 := sumOn_le ps g (turns rs (t + 1)) (turns_low hg h0 (t + 1))
      omega
    | succ n ih =>
      intro t hs
      by_cases hf : FeasL rs (turns rs t)
      · exact ⟨t, hf⟩
      · have : ∃ r ∈ rs, ¬ turns rs t (lx r) ≤ turns rs t (ly r) + lk r := Classical.byContradiction fun hn => hf fun r hr => Classical.byContradiction fun z => hn ⟨r, hr, z⟩
        obtain ⟨r, hr, hn⟩ := this
        have hlt : pass rs (turns rs t) (lx r) < turns rs t (lx r) := by
          have := pass_rel rs (turns rs t) r hr
          omega
        have h1 := sumOn_lt ps (turns rs (t + 1)) (turns rs t) (turns_down rs t) ⟨lx r, (hp r hr).1, hlt⟩
        exact ih (t + 1) (by omega)
  exact key (sumOn ps (turns rs 0) - sumOn ps g).toNat 0 (by omega)
theorem low_all : ∀ (ps : List Int) (g : Int → Int), ∃ m : Int, ∀ p ∈ ps, g p ≤ m
  | [], g => ⟨0, fun p hp => by cases hp⟩
  | q :: ps, g => by
    obtain ⟨m, hm⟩ := low_all ps g
    refine ⟨if g q ≤ m then m else g q, fun p hp => ?_⟩
    rcases List.mem_cons.mp hp with rfl | h
    · split <;> omega
    · have := hm p h
      split <;> omega
/-- within as many turns as there are places -/
theorem settles {rs : List Lim} {ps : List Int} {g : Int → Int} (hg : FeasL rs g) (hp : ∀ r ∈ rs, lx r ∈ ps ∧ ly r ∈ ps) : ∃ t, t ≤ ps.length ∧ FeasL rs (turns rs t) := by
  obtain ⟨m, hm⟩ := low_all ps g
  -- a solution that is nowhere above 0
  let g0 : Int → Int := fun p => if p ∈ ps then g p - (if m < 0 then 0 else m) else (if g p - (if m < 0 then 0 else m) ≤ 0 then g p - (if m < 0 then 0 else m) else 0)
  have g0f : FeasL rs g0 := fun r hr => by
    have h1 := hg r hr
    obtain ⟨h2, h3⟩ := hp r hr
    show (if lx r ∈ ps then _ else _) ≤ (if ly r ∈ ps then _ else _) + lk r
    rw [if_pos h2, if_pos h3]
    omega
  have g00 : ∀ p, g0 p ≤ 0 := fun p => by
    show (if p ∈ ps then _ else _) ≤ (0 : Int)
    by_cases h : p ∈ ps
    · rw [if_pos h]
      have := hm p h
      split <;> omega
    · rw [if_neg h]
      split <;> omega
  obtain ⟨N, hN⟩ := comes_end g0f g00 hp
  have best : ∀ f : Int → Int, FeasL rs f → (∀ p, f p ≤ 0) → ∀ p, f p ≤ turns rs N p := fun f hf h0 p => turns_low hf h0 N p
  have low : ∀ t p, turns rs N p ≤ turns rs t p := fun t p => turns_low hN (turns_le0 rs N) t p
  let U : Nat → List Int := fun t => ps.filter fun p => decide (turns rs t p ≠ turns rs N p)
  have stay : ∀ t p, turns rs t p = turns rs N p → turns rs (t + 1) p = turns rs N p := fun t p e => by
    have h1 := turns_down rs t p
    have h2 := low (t + 1) p
    omega
  have step : ∀ t, U t ≠ [] → (U (t + 1)).length < (U t).length := by
    intro t hne
    have hex : ∃ p ∈ U t, turns rs (t + 1) p = turns rs N p := by
      refine Classical.byContradiction fun hn => ?_
      have hall : ∀ p ∈ ps, turns rs t p ≠ turns rs N p → turns rs (t + 1) p ≠ turns rs N p := fun p hp h z => hn ⟨p, List.mem_filter.mpr ⟨hp, decide_eq_true h⟩, z⟩
      let f : Int → Int := fun p => if p ∈ ps ∧ turns rs t p ≠ turns rs N p then turns rs N p + 1 else turns rs N p
      have f0 : ∀ p, f p ≤ 0 := fun p => by
        show (if _ then _ else _) ≤ (0 : Int)
        split
        · rename_i hc
          have h1 := low t p
          have h2 := turns_le0 rs t p
          have h3 := hc.2
          exact (show turns rs N p + 1 ≤ 0 by omega)
        · exact turns_le0 rs N p
      have ff : FeasL rs f := fun r hr => by
        obtain ⟨h2, h3⟩ := hp r hr
        have h1 := hN r hr
        show (if _ then _ else _) ≤ (if _ then _ else _) + lk r
        by_cases cx : lx r ∈ ps ∧ turns rs t (lx r) ≠ turns rs N (lx r)
        · rw [if_pos cx]
          by_cases cy : ly r ∈ ps ∧ turns rs t (ly r) ≠ turns rs N (ly r)
          · rw [if_pos cy]
            exact (show turns rs N (lx r) + 1 ≤ turns rs N (ly r) + 1 + lk r by omega)
          · rw [if_neg cy]
            have ey : turns rs t (ly r) = turns rs N (ly r) := Classical.byContradiction fun z => cy ⟨h3, z⟩
            have hx := hall _ h2 cx.2
            have h4 := pass_rel rs (turns rs t) r hr
            have h5 := low (t + 1) (lx r)
            have h6 : turns rs (t + 1) (lx r) ≤ turns rs t (ly r) + lk r := h4
            exact (show turns rs N (lx r) + 1 ≤ turns rs N (ly r) + lk r by omega)
        · rw [if_neg cx]
          split
          · exact (show turns rs N (lx r) ≤ turns rs N (ly r) + 1 + lk r by omega)
          · exact h1
      have hb := best f ff f0
      cases hU : U t with
      | nil => exact hne hU
      | cons p rest =>
        have hpm : p ∈ U t := by rw [hU]; exact List.mem_cons_self
        obtain ⟨hp1, hp2⟩ := List.mem_filter.mp hpm
        have := hb p
        have e : f p = turns rs N p + 1 := if_pos ⟨hp1, of_decide_eq_true hp2⟩
        omega
    obtain ⟨p, hpU, he⟩ := hex
    obtain ⟨hp1, hp2⟩ := List.mem_filter.mp hpU
    have e1 : U (t + 1) = (U t).filter fun p => decide (turns rs (t + 1) p ≠ turns rs N p) := by
      show ps.filter _ = (ps.filter _).filter _
      rw [List.filter_filter]
      refine List.filter_congr fun x _ => ?_
      by_cases h1 : turns rs (t + 1) x = turns rs N x
      · simp [h1]
      · have : turns rs t x ≠ turns rs N x := fun z => h1 (stay t x z)
        simp [h1, this]
    rw [e1]
    rcases Nat.lt_or_ge ((U t).filter fun p => decide (turns rs (t + 1) p ≠ turns rs N p)).length (U t).length with h | h
    · exact h
    · exfalso
      have hl : ((U t).filter fun p => decide (turns rs (t + 1) p ≠ turns rs N p)).length = (U t).length := Nat.le_antisymm (List.length_filter_le _ _) h
      have := List.length_filter_eq_length_iff.mp hl p hpU
      simp [he] at this
  have count : ∀ t, (U t).length + t ≤ ps.length ∨ ∃ s, s ≤ t ∧ U s = [] := by
    intro t
    induction t with
    | zero => exact .inl (by rw [Nat.add_zero]; exact List.length_filter_le _ _)
    | succ t ih =>
      rcases ih with h | ⟨s, hs, e⟩
      · by_cases hz : U t = []
        · exact .inr ⟨t, by omega, hz⟩
        · have := step t hz
          exact .inl (by omega)
      · exact .inr ⟨s, by omega, e⟩
  have fin : ∀ s, U s = [] → FeasL rs (turns rs s) := fun s e r hr => by
    obtain ⟨h2, h3⟩ := hp r hr
    have eq : ∀ p ∈ ps, turns rs s p = turns rs N p := fun p hp => Classical.byContradiction fun z => by
      have : p ∈ U s := List.mem_filter.mpr ⟨hp, decide_eq_true z⟩
      rw [e] at this
      cases this
    rw [eq _ h2, eq _ h3]
    exact hN r hr
  rcases count ps.length with h | ⟨s, hs, e⟩
  · have : U ps.length = [] := List.eq_nil_of_length_eq_zero (by omega)
    exact ⟨ps.length, Nat.le_refl _, fin _ this⟩
  · exact ⟨s, hs, fin s e⟩
end WY

namespace L
open PySem PySem.Spec PyProof.Rows L2 Z
def topS (i : Nat) : Stmt := PySem.Challenge.pw_papersat_k45_whole_ways_with_backs.main.body.getD i (.Pass ⟨0, 0, 0, 0⟩)
abbrev s_Ways_init : Stmt := inClass (topS 2) 0
abbrev N_Ways_init : List Str := ["self"]
theorem sc_Ways_init : FnScope N_Ways_init ["self"] (defScope s_Ways_init) := ⟨rfl, rfl, rfl, by decide +kernel, rfl, by decide +kernel, by decide +kernel⟩
abbrev s_Ways_limit : Stmt := inClass (topS 2) 1
abbrev N_Ways_limit : List Str := ["self", "x", "y", "k", "label", "place"]
theorem sc_Ways_limit : FnScope N_Ways_limit ["self", "x", "y", "k", "label"] (defScope s_Ways_limit) := ⟨rfl, rfl, rfl, by decide +kernel, rfl, by decide +kernel, by decide +kernel⟩
abbrev s_Ways_settle : Stmt := inClass (topS 2) 2
abbrev N_Ways_settle : List Str := ["self", "ring"]
theorem sc_Ways_settle : FnScope N_Ways_settle ["self"] (defScope s_Ways_settle) := ⟨rfl, rfl, rfl, by decide +kernel, rfl, by decide +kernel, by decide +kernel⟩
abbrev s_Ways_heights : Stmt := inClass (topS 2) 3
abbrev N_Ways_heights : List Str := ["self", "ground", "place"]
theorem sc_Ways_heights : FnScope N_Ways_heights ["self"] (defScope s_Ways_heights) := ⟨rfl, rfl, rfl, by decide +kernel, rfl, by decide +kernel, by decide +kernel⟩
abbrev s_Ways_limits : Stmt := inClass (topS 2) 4
abbrev N_Ways_limits : List Str := ["self"]
theorem sc_Ways_limits : FnScope N_Ways_limits ["self"] (defScope s_Ways_limits) := ⟨rfl, rfl, rfl, by decide +kernel, rfl, by decide +kernel, by decide +kernel⟩
abbrev s_Ways_back : Stmt := inClass (topS 2) 5
abbrev N_Ways_back : List Str := ["self", "count", "y"]
theorem sc_Ways_back : FnScope N_Ways_back ["self", "count"] (defScope s_Ways_back) := ⟨rfl, rfl, rfl, by decide +kernel, rfl, by decide +kernel, by decide +kernel⟩
abbrev s_Ways_fall : Stmt := inClass (topS 2) 6
abbrev N_Ways_fall : List Str := ["self", "number", "x", "y", "k", "label", "fallen", "causes", "queue", "fall", "place", "cause", "pull"]
theorem sc_Ways_fall : FnScope N_Ways_fall ["self", "number"] (defScope s_Ways_fall) := ⟨rfl, rfl, rfl, by decide +kernel, rfl, by decide +kernel, by decide +kernel⟩
abbrev s_Ways_pulls : Stmt := inClass (topS 2) 7
abbrev N_Ways_pulls : List Str := ["self", "place", "fallen", "pulls", "number", "fall", "above", "_", "k"]
theorem sc_Ways_pulls : FnScope N_Ways_pulls ["self", "place", "fallen"] (defScope s_Ways_pulls) := ⟨rfl, rfl, rfl, by decide +kernel, rfl, by decide +kernel, by decide +kernel⟩
abbrev s_Ways_ring : Stmt := inClass (topS 2) 8
abbrev N_Ways_ring : List Str := ["self", "number", "last", "causes", "ring", "start", "cause", "place"]
theorem sc_Ways_ring : FnScope N_Ways_ring ["self", "number", "last", "causes"] (defScope s_Ways_ring) := ⟨rfl, rfl, rfl, by decide +kernel, rfl, by decide +kernel, by decide +kernel⟩
abbrev s_pool : Stmt := topS 4
abbrev N_pool : List Str := ["_law_script", "_law_k", "_law_cell", "_law_spare"]
theorem sc_pool : FnScope N_pool ["_law_script", "_law_k"] (defScope s_pool) := ⟨rfl, rfl, rfl, by decide +kernel, rfl, by decide +kernel, by decide +kernel⟩
abbrev s_take : Stmt := topS 5
abbrev N_take : List Str := ["_law_pool_here", "_law_size", "_law_k", "_law_cell", "_law_mixed"]
theorem sc_take : FnScope N_take ["_law_pool_here", "_law_size"] (defScope s_take) := ⟨rfl, rfl, rfl, by decide +kernel, rfl, by decide +kernel, by decide +kernel⟩
abbrev s_turn : Stmt := topS 6
abbrev N_turn : List Str := ["_law_script", "_law_pool_here", "_law_k"]
theorem sc_turn : FnScope N_turn ["_law_script", "_law_pool_here", "_law_k"] (defScope s_turn) := ⟨rfl, rfl, rfl, by decide +kernel, rfl, by decide +kernel, by decide +kernel⟩
abbrev s_places : Stmt := topS 7
abbrev N_places : List Str := ["_law_pool_here", "_law_wide", "_law_places_here", "_law_k"]
theorem sc_places : FnScope N_places ["_law_pool_here"] (defScope s_places) := ⟨rfl, rfl, rfl, by decide +kernel, rfl, by decide +kernel, by decide +kernel⟩
abbrev s_whole : Stmt := topS 8
abbrev N_whole : List Str := ["_law_value"]
theorem sc_whole : FnScope N_whole ["_law_value"] (defScope s_whole) := ⟨rfl, rfl, rfl, by decide +kernel, rfl, by decide +kernel, by decide +kernel⟩
abbrev s_heights : Stmt := topS 9
abbrev N_heights : List Str := ["_law_limits", "_law_places_here", "_law_heights_here", "_law_place", "_law_turn_here", "_law_changed", "_law_limit", "_law_x", "_law_y"]
theorem sc_heights : FnScope N_heights ["_law_limits", "_law_places_here"] (defScope s_heights) := ⟨rfl, rfl, rfl, by decide +kernel, rfl, by decide +kernel, by decide +kernel⟩
abbrev s_reach : Stmt := topS 10
abbrev N_reach : List Str := ["_law_limits", "_law_places_here", "_law_start", "_law_reach_here", "_law_place", "_law_at", "_law_turn_here", "_law_limit", "_law_x", "_law_y"]
theorem sc_reach : FnScope N_reach ["_law_limits", "_law_places_here", "_law_start"] (defScope s_reach) := ⟨rfl, rfl, rfl, by decide +kernel, rfl, by decide +kernel, by decide +kernel⟩
abbrev s_ring : Stmt := topS 11
abbrev N_ring : List Str := ["_law_told", "_law_rows", "_law_table", "_law_row", "_law_walk", "_law_label", "_law_firsts", "_law_total", "_law_k"]
theorem sc_ring : FnScope N_ring ["_law_told", "_law_rows"] (defScope s_ring) := ⟨rfl, rfl, rfl, by decide +kernel, rfl, by decide +kernel, by decide +kernel⟩
abbrev s_drawn : Stmt := topS 12
abbrev N_drawn : List Str := ["_law_pool_here", "_law_house", "_law_places_here", "_law_great", "_law_x", "_law_y", "_law_k", "_law_near", "_law_way", "_law_label"]
theorem sc_drawn : FnScope N_drawn ["_law_pool_here", "_law_house", "_law_places_here", "_law_great"] (defScope s_drawn) := ⟨rfl, rfl, rfl, by decide +kernel, rfl, by decide +kernel, by decide +kernel⟩
abbrev s_add : Stmt := topS 13
abbrev N_add : List Str := ["_law_house", "_law_row", "_law_place"]
theorem sc_add : FnScope N_add ["_law_house", "_law_row"] (defScope s_add) := ⟨rfl, rfl, rfl, by decide +kernel, rfl, by decide +kernel, by decide +kernel⟩
abbrev s_back : Stmt := topS 14
abbrev N_back : List Str := ["_law_house", "_law_count"]
theorem sc_back : FnScope N_back ["_law_house", "_law_count"] (defScope s_back) := ⟨rfl, rfl, rfl, by decide +kernel, rfl, by decide +kernel, by decide +kernel⟩
abbrev s_settle : Stmt := topS 15
abbrev N_settle : List Str := ["_law_house", "_law_places_here", "_law_turn_here", "_law_told"]
theorem sc_settle : FnScope N_settle ["_law_house", "_law_places_here"] (defScope s_settle) := ⟨rfl, rfl, rfl, by decide +kernel, rfl, by decide +kernel, by decide +kernel⟩
abbrev s_look : Stmt := topS 16
abbrev N_look : List Str := ["_law_house", "_law_turn_here", "_law_heights_here", "_law_place", "_law_row"]
theorem sc_look : FnScope N_look ["_law_house"] (defScope s_look) := ⟨rfl, rfl, rfl, by decide +kernel, rfl, by decide +kernel, by decide +kernel⟩
abbrev s_deed : Stmt := topS 17
abbrev N_deed : List Str := ["_law_pool_here", "_law_house", "_law_places_here", "_law_great", "_law_pick", "_law_many", "_law_right"]
theorem sc_deed : FnScope N_deed ["_law_pool_here", "_law_house", "_law_places_here", "_law_great"] (defScope s_deed) := ⟨rfl, rfl, rfl, by decide +kernel, rfl, by decide +kernel, by decide +kernel⟩
abbrev s_counted : Stmt := topS 18
abbrev N_counted : List Str := ["_law_pair", "_law_house", "_law_count"]
theorem sc_counted : FnScope N_counted ["_law_pair"] (defScope s_counted) := ⟨rfl, rfl, rfl, by decide +kernel, rfl, by decide +kernel, by decide +kernel⟩
abbrev s_end : Stmt := topS 19
abbrev N_end : List Str := ["_law_house", "_law_places_here", "_law_k"]
theorem sc_end : FnScope N_end ["_law_house", "_law_places_here"] (defScope s_end) := ⟨rfl, rfl, rfl, by decide +kernel, rfl, by decide +kernel, by decide +kernel⟩
abbrev s_law : Stmt := topS 20
abbrev N_law : List Str := ["_law_script", "_law_pool_here", "_law_places_here", "_law_great", "_law_pair", "_law_k", "_law_turn_here", "_law_house"]
theorem sc_law : FnScope N_law ["_law_script"] (defScope s_law) := ⟨rfl, rfl, rfl, by decide +kernel, rfl, by decide +kernel, by decide +kernel⟩

structure Txt (K : PySem.W.Frag) (mg : Str → Option Value) : Type where
  f_Ways_init : Addr
  fd_Ways_init : FuncData
  F_Ways_init : Fun K "__init__" "Ways.__init__" s_Ways_init f_Ways_init fd_Ways_init
  b_Ways_init : Binds K fd_Ways_init ["self"] []
  f_Ways_limit : Addr
  fd_Ways_limit : FuncData
  F_Ways_limit : Fun K "limit" "Ways.limit" s_Ways_limit f_Ways_limit fd_Ways_limit
  b_Ways_limit : Binds K fd_Ways_limit ["self", "x", "y", "k", "label"] []
  f_Ways_settle : Addr
  fd_Ways_settle : FuncData
  F_Ways_settle : Fun K "settle" "Ways.settle" s_Ways_settle f_Ways_settle fd_Ways_settle
  b_Ways_settle : Binds K fd_Ways_settle ["self"] []
  f_Ways_heights : Addr
  fd_Ways_heights : FuncData
  F_Ways_heights : Fun K "heights" "Ways.heights" s_Ways_heights f_Ways_heights fd_Ways_heights
  b_Ways_heights : Binds K fd_Ways_heights ["self"] []
  f_Ways_limits : Addr
  fd_Ways_limits : FuncData
  F_Ways_limits : Fun K "limits" "Ways.limits" s_Ways_limits f_Ways_limits fd_Ways_limits
  b_Ways_limits : Binds K fd_Ways_limits ["self"] []
  f_Ways_back : Addr
  fd_Ways_back : FuncData
  F_Ways_back : Fun K "back" "Ways.back" s_Ways_back f_Ways_back fd_Ways_back
  b_Ways_back : Binds K fd_Ways_back ["self", "count"] []
  f_Ways_fall : Addr
  fd_Ways_fall : FuncData
  F_Ways_fall : Fun K "_fall" "Ways._fall" s_Ways_fall f_Ways_fall fd_Ways_fall
  b_Ways_fall : Binds K fd_Ways_fall ["self", "number"] []
  f_Ways_pulls : Addr
  fd_Ways_pulls : FuncData
  F_Ways_pulls : Fun K "_pulls" "Ways._pulls" s_Ways_pulls f_Ways_pulls fd_Ways_pulls
  b_Ways_pulls : Binds K fd_Ways_pulls ["self", "place", "fallen"] []
  f_Ways_ring : Addr
  fd_Ways_ring : FuncData
  F_Ways_ring : Fun K "_ring" "Ways._ring" s_Ways_ring f_Ways_ring fd_Ways_ring
  b_Ways_ring : Binds K fd_Ways_ring ["self", "number", "last", "causes"] []
  f_pool : Addr
  fd_pool : FuncData
  F_pool : Fun K "_law_pool" "_law_pool" s_pool f_pool fd_pool
  b_pool : Binds K fd_pool ["_law_script", "_law_k"] []
  g_pool : mg "_law_pool" = some (.ref f_pool)
  f_take : Addr
  fd_take : FuncData
  F_take : Fun K "_law_take" "_law_take" s_take f_take fd_take
  b_take : Binds K fd_take ["_law_pool_here", "_law_size"] []
  g_take : mg "_law_take" = some (.ref f_take)
  f_turn : Addr
  fd_turn : FuncData
  F_turn : Fun K "_law_turn" "_law_turn" s_turn f_turn fd_turn
  b_turn : Binds K fd_turn ["_law_script", "_law_pool_here", "_law_k"] []
  g_turn : mg "_law_turn" = some (.ref f_turn)
  f_places : Addr
  fd_places : FuncData
  F_places : Fun K "_law_places" "_law_places" s_places f_places fd_places
  b_places : Binds K fd_places ["_law_pool_here"] []
  g_places : mg "_law_places" = some (.ref f_places)
  f_whole : Addr
  fd_whole : FuncData
  F_whole : Fun K "_law_whole" "_law_whole" s_whole f_whole fd_whole
  b_whole : Binds K fd_whole ["_law_value"] []
  g_whole : mg "_law_whole" = some (.ref f_whole)
  f_heights : Addr
  fd_heights : FuncData
  F_heights : Fun K "_law_heights" "_law_heights" s_heights f_heights fd_heights
  b_heights : Binds K fd_heights ["_law_limits", "_law_places_here"] []
  g_heights : mg "_law_heights" = some (.ref f_heights)
  f_reach : Addr
  fd_reach : FuncData
  F_reach : Fun K "_law_reach" "_law_reach" s_reach f_reach fd_reach
  b_reach : Binds K fd_reach ["_law_limits", "_law_places_here", "_law_start"] []
  g_reach : mg "_law_reach" = some (.ref f_reach)
  f_ring : Addr
  fd_ring : FuncData
  F_ring : Fun K "_law_ring" "_law_ring" s_ring f_ring fd_ring
  b_ring : Binds K fd_ring ["_law_told", "_law_rows"] []
  g_ring : mg "_law_ring" = some (.ref f_ring)
  f_drawn : Addr
  fd_drawn : FuncData
  F_drawn : Fun K "_law_drawn" "_law_drawn" s_drawn f_drawn fd_drawn
  b_drawn : Binds K fd_drawn ["_law_pool_here", "_law_house", "_law_places_here", "_law_great"] []
  g_drawn : mg "_law_drawn" = some (.ref f_drawn)
  f_add : Addr
  fd_add : FuncData
  F_add : Fun K "_law_add" "_law_add" s_add f_add fd_add
  b_add : Binds K fd_add ["_law_house", "_law_row"] []
  g_add : mg "_law_add" = some (.ref f_add)
  f_back : Addr
  fd_back : FuncData
  F_back : Fun K "_law_back" "_law_back" s_back f_back fd_back
  b_back : Binds K fd_back ["_law_house", "_law_count"] []
  g_back : mg "_law_back" = some (.ref f_back)
  f_settle : Addr
  fd_settle : FuncData
  F_settle : Fun K "_law_settle" "_law_settle" s_settle f_settle fd_settle
  b_settle : Binds K fd_settle ["_law_house", "_law_places_here"] []
  g_settle : mg "_law_settle" = some (.ref f_settle)
  f_look : Addr
  fd_look : FuncData
  F_look : Fun K "_law_look" "_law_look" s_look f_look fd_look
  b_look : Binds K fd_look ["_law_house"] []
  g_look : mg "_law_look" = some (.ref f_look)
  f_deed : Addr
  fd_deed : FuncData
  F_deed : Fun K "_law_deed" "_law_deed" s_deed f_deed fd_deed
  b_deed : Binds K fd_deed ["_law_pool_here", "_law_house", "_law_places_here", "_law_great"] []
  g_deed : mg "_law_deed" = some (.ref f_deed)
  f_counted : Addr
  fd_counted : FuncData
  F_counted : Fun K "_law_counted" "_law_counted" s_counted f_counted fd_counted
  b_counted : Binds K fd_counted ["_law_pair"] []
  g_counted : mg "_law_counted" = some (.ref f_counted)
  f_end : Addr
  fd_end : FuncData
  F_end : Fun K "_law_end" "_law_end" s_end f_end fd_end
  b_end : Binds K fd_end ["_law_house", "_law_places_here"] []
  g_end : mg "_law_end" = some (.ref f_end)
  f_law : Addr
  fd_law : FuncData
  F_law : Fun K "law" "law" s_law f_law fd_law
  b_law : Binds K fd_law ["_law_script"] []
  g_law : mg "law" = some (.ref f_law)
  C_Ways : Addr
  c_Ways : mg "Ways" = some (.ref C_Ways)
  cl_Ways : Cls K C_Ways
  mk_Ways : Mk K C_Ways f_Ways_init
  n_Ways__limits : NoAttr K C_Ways "_limits"
  n_Ways__settled : NoAttr K C_Ways "_settled"
  n_Ways__heights : NoAttr K C_Ways "_heights"
  n_Ways__leaning : NoAttr K C_Ways "_leaning"
  M_Ways_init : Meth K C_Ways "__init__" f_Ways_init
  M_Ways_limit : Meth K C_Ways "limit" f_Ways_limit
  M_Ways_settle : Meth K C_Ways "settle" f_Ways_settle
  M_Ways_heights : Meth K C_Ways "heights" f_Ways_heights
  M_Ways_limits : Meth K C_Ways "limits" f_Ways_limits
  M_Ways_back : Meth K C_Ways "back" f_Ways_back
  M_Ways_fall : Meth K C_Ways "_fall" f_Ways_fall
  M_Ways_pulls : Meth K C_Ways "_pulls" f_Ways_pulls
  M_Ways_ring : Meth K C_Ways "_ring" f_Ways_ring
  m_len : mg "len" = none
  m_int : mg "int" = none
  m_abs : mg "abs" = none
  m_max : mg "max" = none
  m_isinstance : mg "isinstance" = none
  m_range : mg "range" = none
  m_bool : mg "bool" = none
  m_list : mg "list" = none
  m_sorted : mg "sorted" = none
  m_dict : mg "dict" = none
  m_heappop : mg "heappop" = some (.builtin "_heapq.heappop")
  m_heappush : mg "heappush" = some (.builtin "_heapq.heappush")
end L

namespace L
open PySem PySem.Spec PyProof.Rows L2 Z
section
variable {P : Program} {w : World} {K : PySem.W.Frag} {mg : Str → Option Value} {base : Heap}
def spPool (K : PySem.W.Frag) : Sp := fun vs H Q _ => ∃ (a : Addr) (ns : List Int) (k : Int), vs = [.ref a, .int k] ∧ SqL K H a (ns.map V.int) ∧ ns.length ≤ 1000 ∧ 0 ≤ k ∧ k < 2 ^ 62 ∧ ∀ q o, H q = none → IsPool o → Q (.ref q) (upd H q o)
def spTake : Sp := fun vs H Q _ => ∃ (q : Addr) (o : HO) (n : Int), vs = [.ref q, .int n] ∧ H q = some o ∧ IsPool o ∧ 0 < n ∧ n < 1073741824 ∧ ∀ r o', 0 ≤ r → r < n → IsPool o' → Q (.int r) (upd H q o')
theorem ok_take (T : Txt K mg) : FnOk P w K mg base CX0 1 T.f_take T.fd_take ["_law_pool_here", "_law_size"] spTake := by
  refine T.F_take.ok sc_take (fun vs H Q E h => ?_) (fun cdv A outer s H vs Q E hr h => ?_)
  · obtain ⟨q, o, n, rfl, _⟩ := h
    rfl
  · obtain ⟨q, o, n, rfl, ho, ⟨c, k, b, s', rfl⟩, hn, hn2, hq⟩ := h
    refine ⟨_, (pss_cons (ps_set (i := 2) sc_take.nd rfl (.inl rfl) (pe_ix ix_list (pv 0) pe_int (fun _ _ => rfl)))
 (pss_cons (ps_asg (pe_op op_add (pv 2) pe_int) (pg_sub (pv 0) pe_int set_list))
 (pss_cons (ps_set (i := 3) sc_take.nd rfl (.inl rfl) (pe_ix ix_list (pv 0) pe_int (fun _ _ => rfl)))
 (pss_cons (ps_if (PW.pt (pw_and (pt_val (pe_ix ix_list (pv 0) pe_int (fun _ _ => rfl))) (pw_and1 (pt_cmpR op_gt (pv 3) pe_int (nomark _))))) (pss_cons (ps_asg (pe_op op_fdiv (pv 3) (pv 1)) (pg_sub (pv 0) pe_int set_list))
 (pss_one (ps_ret (pe_op op_mod (pe_callTy call_int1 (by rfl) T.m_int (by decide +kernel) (pa_cons (pv 3) pa_nil)) (pv 1))))) pss_nil)
 (pss_cons (ps_if (pt_val (pe_ix ix_list (pv 0) pe_int (fun _ _ => rfl))) (pss_one (ps_set (i := 3) sc_take.nd rfl (.inl rfl) (pe_ix ix_list (pv 0) pe_int (fun _ _ => rfl)))) pss_nil)
 (pss_cons (ps_set (i := 4) sc_take.nd rfl (.inl rfl) (pe_op op_mod (pe_callTy call_int1 (by rfl) T.m_int (by decide +kernel) (pa_cons (pe_op op_add (pe_op op_add (pv 3) (pe_op op_mul pe_int (pv 2))) pe_int) pa_nil)) pe_int))
 (pss_cons (ps_set (i := 4) sc_take.nd rfl (.inl rfl) (pe_op op_mod (pe_callTy call_int1 (by rfl) T.m_int (by decide +kernel) (pa_cons (pe_op op_mul (pv 4) (pe_op op_add (pv 4) pe_int)) pa_nil)) pe_int))
 (pss_cons (ps_set (i := 4) sc_take.nd rfl (.inl rfl) (pe_op op_mod (pe_callTy call_int1 (by rfl) T.m_int (by decide +kernel) (pa_cons (pe_op op_add (pe_op op_mul (pv 4) (pe_op op_add (pv 4) pe_int)) (pe_op op_mul pe_int (pv 2))) pa_nil)) pe_int))
 (pss_one (ps_ret (pe_op op_mod (pe_callTy call_int1 (by rfl) T.m_int (by decide +kernel) (pa_cons (pe_op op_fdiv (pv 4) pe_int) pa_nil)) (pv 1)))))))))))), ?_⟩
    refine Z.w_start (σ' := [some (.ref q), some (.int n), none, none, none]) rfl ?_
    walk_at "w"
    cases b with
    | true =>
      walk_at "w"
      walk_at "wi"
      all_goals walk_at "w"
      all_goals exact hq _ _ (Int.emod_nonneg _ (by omega)) (Int.emod_lt_of_pos _ hn) ⟨_, _, _, _, rfl⟩
    | false =>
      walk_at "w"
      all_goals exact hq _ _ (Int.emod_nonneg _ (by omega)) (Int.emod_lt_of_pos _ hn) ⟨_, _, _, _, rfl⟩
theorem ok_pool (T : Txt K mg) : FnOk P w K mg base CX0 1 T.f_pool T.fd_pool ["_law_script", "_law_k"] (spPool K) := by
  refine T.F_pool.ok sc_pool (fun vs H Q E h => ?_) (fun cdv A outer s H vs Q E hr h => ?_)
  · obtain ⟨a, ns, k, rfl, _⟩ := h
    rfl
  · obtain ⟨a, ns, k, rfl, hS, hl, hk, hk2, hq⟩ := h
    refine ⟨_, (pss_cons (ps_set (i := 2) sc_pool.nd rfl (.inl rfl) (pe_op op_add (pe_op op_mul pe_int (pv 1)) pe_int))
 (pss_cons (ps_set (i := 3) sc_pool.nd rfl (.inl rfl) (pe_op op_add (pe_op op_mul pe_int (pv 1)) pe_int))
 (pss_cons (ps_if (pt_cmpR op_lt (pv 1) (pe_callB call_len_seq (by rfl) T.m_len (by decide +kernel) (pa_cons (pv 0) pa_nil)) (nomark _)) (pss_one (ps_set (i := 2) sc_pool.nd rfl (.inl rfl) (pe_ix ix_list (pv 0) (pv 1) (fun _ _ => rfl)))) pss_nil)
 (pss_cons (ps_if (pt_cmpR op_lt (pe_op op_add (pv 1) pe_int) (pe_callB call_len_seq (by rfl) T.m_len (by decide +kernel) (pa_cons (pv 0) pa_nil)) (nomark _)) (pss_one (ps_set (i := 3) sc_pool.nd rfl (.inl rfl) (pe_ix ix_list (pv 0) (pe_op op_add (pv 1) pe_int) (fun _ _ => rfl)))) pss_nil)
 (pss_one (ps_ret (pe_lst (pa_cons (pv 2) (pa_cons pe_int (pa_cons (pe_cmpR op_ge (pv 2) (pe_op op_pow pe_int pe_int) (nomark _)) (pa_cons (pv 3) pa_nil))))))))))), ?_⟩
    refine Z.w_start (σ' := [some (.ref a), some (.int k), none, none]) rfl ?_
    by_cases h1 : k < ns.length
    · obtain ⟨z1, a1, _⟩ := pick hk h1
      by_cases h2 : k + 1 < ns.length
      · obtain ⟨z2, a2, _⟩ := pick (by omega) h2
        walk_at "w"
        exact hq _ _ (by assumption) ⟨_, _, _, _, rfl⟩
      · walk_at "w"
        exact hq _ _ (by assumption) ⟨_, _, _, _, rfl⟩
    · walk_at "w"
      exact hq _ _ (by assumption) ⟨_, _, _, _, rfl⟩
end
end L

namespace L
open PySem PySem.Spec PyProof.Rows L2 Z
section
variable {P : Program} {w : World} {K : PySem.W.Frag} {mg : Str → Option Value} {base : Heap}
def spWhole : Sp := fun vs H Q _ => ∃ i : Int, vs = [.int i] ∧ Q (.bl true) H
theorem use_whole {i : Int} {H : Hp} {Q : VK} {E : XK} (q : Q (.bl true) H) : spWhole [.int i] H Q E := ⟨i, rfl, q⟩
theorem ok_whole (T : Txt K mg) : FnOk P w K mg base CX0 1 T.f_whole T.fd_whole ["_law_value"] spWhole := by
  refine T.F_whole.ok sc_whole (fun vs H Q E h => ?_) (fun cdv A outer s H vs Q E hr h => ?_)
  · obtain ⟨i, rfl, _⟩ := h
    rfl
  · obtain ⟨i, rfl, hq⟩ := h
    refine ⟨_, (pss_one (ps_ret (pe_and (pe_callB call_isi (by rfl) T.m_isinstance (by decide +kernel) (pa_cons (pv 0) (pa_cons (pe_bltn (v := .ty "int") (by rfl) T.m_int (by decide +kernel) rfl) pa_nil))) (pe_one (pe_not (pe_callB call_isi (by rfl) T.m_isinstance (by decide +kernel) (pa_cons (pv 0) (pa_cons (pe_bltn (v := .ty "bool") (by rfl) T.m_bool (by decide +kernel) rfl) pa_nil)))))))), ?_⟩
    refine Z.w_start (σ' := [some (.int i)]) rfl ?_
    walk_at "w"
    exact hq
end
end L

namespace M
open PySem PySem.Spec PyProof.Rows L2
/-- strictly ascending by absolute values -/
def Asc (ys : List Int) : Prop := ys.Pairwise fun i j => i.natAbs < j.natAbs
theorem asc_uniq : ∀ ys zs : List Int, Asc ys → Asc zs → (∀ x, x ∈ ys ↔ x ∈ zs) → ys = zs
  | [], [], _, _, _ => rfl
  | [], z :: zs, _, _, h => absurd ((h z).mpr List.mem_cons_self) (by simp)
  | y :: ys, [], _, _, h => absurd ((h y).mp List.mem_cons_self) (by simp)
  | y :: ys, z :: zs, hy, hz, h => by
    obtain ⟨hy1, hy2⟩ := List.pairwise_cons.mp hy
    obtain ⟨hz1, hz2⟩ := List.pairwise_cons.mp hz
    have e : y = z := by
      rcases List.mem_cons.mp ((h y).mp List.mem_cons_self) with e | m
      · exact e
      · rcases List.mem_cons.mp ((h z).mpr List.mem_cons_self) with e | m2
        · exact e.symm
        · have a := hz1 y m
          have b := hy1 z m2
          omega
    subst e
    have t : ys = zs := asc_uniq ys zs hy2 hz2 fun x => by
      constructor
      · intro m
        rcases List.mem_cons.mp ((h x).mp (List.mem_cons_of_mem _ m)) with e | m2
        · have := hy1 x m
          rw [e] at this
          omega
        · exact m2
      · intro m
        rcases List.mem_cons.mp ((h x).mpr (List.mem_cons_of_mem _ m)) with e | m2
        · have := hz1 x m
          rw [e] at this
          omega
        · exact m2
    rw [t]
def Clash (ls : List Int) : Prop := ∃ l ∈ ls, -l ∈ ls
/-- the clause of a list -/
def ClOf (ls ys : List Int) : Prop := Asc ys ∧ ∀ x, x ∈ ys ↔ x ∈ ls
/-- nondecreasing and without a clash and twins -/
theorem asc_of {ys : List Int} (h : ys.Pairwise fun i j => i.natAbs ≤ j.natAbs) (hn : ys.Nodup) (hc : ¬ Clash ys) : Asc ys := by
  unfold Asc
  have h2 := h.and hn
  refine List.Pairwise.imp_of_mem ?_ h2
  intro a b ha hb ⟨h1, h3⟩
  rcases Nat.lt_or_ge a.natAbs b.natAbs with h4 | h4
  · exact h4
  · exfalso
    have : a = b ∨ a = -b := by omega
    rcases this with e | e
    · exact h3 e
    · exact hc ⟨b, hb, by rw [← e]; exact ha⟩
/-- a dict of kept ints -/
def kd (ks : List Int) : List (Key × V) := ks.map fun k => (Sum.inl k, V.bl true)
theorem kd_get (ks : List Int) (x : Int) : (valV (kd ks) (Sum.inl x)).isSome = decide (x ∈ ks) := by
  rw [← valV_any]
  unfold kd
  rw [List.any_map]
  induction ks with
  | nil => rfl
  | cons k r ih =>
    rw [List.any_cons, ih]
    simp only [Function.comp, List.mem_cons]
    by_cases h : k = x
    · subst h; simp
    · have h' : ¬ (Sum.inl k : Key) = Sum.inl x := fun z => h (Sum.inl.inj z)
      have h'' : ¬ x = k := fun z => h z.symm
      simp [h', h'']
theorem kd_keys (ks : List Int) : (kd ks).map (·.1) = ks.map Sum.inl := by
  unfold kd
  rw [List.map_map]
  rfl
theorem kd_len (ks : List Int) : (kd ks).length = ks.length := by
  unfold kd
  rw [List.length_map]
theorem kd_put (ks : List Int) (x : Int) : putK (kd ks) (Sum.inl x) (.bl true) = kd (if x ∈ ks then ks else ks ++ [x]) := by
  by_cases h : x ∈ ks
  · rw [if_pos h]
    unfold putK
    have e : (valV (kd ks) (Sum.inl x)).isSome = true := by rw [kd_get]; exact decide_eq_true h
    rw [valV_any, if_pos e]
    unfold kd
    rw [List.map_map]
    refine List.map_congr_left fun k _ => ?_
    simp only [Function.comp]
    split <;> rfl
  · rw [if_neg h, putK_new]
    · unfold kd
      rw [List.map_append]
      rfl
    · have e : (valV (kd ks) (Sum.inl x)).isSome = false := by rw [kd_get]; exact decide_eq_false h
      exact Option.isNone_iff_eq_none.mp (by rw [← Option.not_isSome, e]; rfl)
theorem inV_int (x : Int) (ls : List Int) : inV (.int x) (ls.map V.int) = decide (x ∈ ls) := by
  unfold inV
  rw [List.any_map]
  induction ls with
  | nil => rfl
  | cons k r ih =>
    rw [List.any_cons, ih]
    have e : eqV (.int k) (.int x) = decide (k = x) := by
      first | rfl | simp [eqV]
    simp only [Function.comp, e, List.mem_cons]
    by_cases h : k = x
    · subst h; simp
    · have h'' : ¬ x = k := fun z => h z.symm
      simp [h, h'']
theorem flat_ints (ls : List Int) : (ls.map V.int).all flatV = true := by
  rw [List.all_map]
  exact List.all_eq_true.mpr fun _ _ => rfl
/-- what is kept so far: the taken ones, each once, without a clash -/
def KeptI (ls : List Int) (i : Nat) (ks : List Int) : Prop := ks.Nodup ∧ (∀ x, x ∈ ks ↔ x ∈ ls.take i) ∧ ¬ Clash ks ∧ ks.length ≤ i
theorem kept_zero (ls : List Int) : KeptI ls 0 [] := ⟨List.nodup_nil, fun x => by simp, fun ⟨_, h, _⟩ => by simp at h, Nat.le_refl _⟩
theorem kept_next {ls ks : List Int} {i : Nat} {l : Int} (h : KeptI ls i ks) (hl : ls[i]? = some l) (h0 : l ≠ 0) (hc : -l ∉ ks) : KeptI ls (i + 1) (if l ∈ ks then ks else ks ++ [l]) := by
  obtain ⟨h1, h2, h3, h4⟩ := h
  have ht : ls.take (i + 1) = ls.take i ++ [l] := by rw [List.take_add_one, hl]; rfl
  by_cases hm : l ∈ ks
  · rw [if_pos hm]
    refine ⟨h1, fun x => ?_, h3, by omega⟩
    rw [ht, List.mem_append, h2 x]
    constructor
    · exact fun z => .inl z
    · rintro (z | z)
      · exact z
      · rw [List.mem_singleton.mp z]
        exact (h2 l).mp hm
  · rw [if_neg hm]
    refine ⟨?_, fun x => by rw [ht, List.mem_append, List.mem_append, h2 x], ?_, by rw [List.length_append, List.length_singleton]; omega⟩
    · rw [List.nodup_append]
      refine ⟨h1, List.nodup_cons.mpr ⟨by simp, List.nodup_nil⟩, fun a ha b hb e => ?_⟩
      rw [List.mem_singleton.mp hb] at e
      exact hm (e ▸ ha)
    · rintro ⟨x, hx, hx2⟩
      rcases List.mem_append.mp hx with a | a <;> rcases List.mem_append.mp hx2 with b | b
      · exact h3 ⟨x, a, b⟩
      · have e := List.mem_singleton.mp b
        have : x = -l := by omega
        rw [this] at a
        exact hc a
      · rw [List.mem_singleton.mp a] at b
        exact hc b
      · have e1 := List.mem_singleton.mp a
        have e2 := List.mem_singleton.mp b
        omega
end M
namespace M
open PySem PySem.Spec PyProof.Rows L2
/-- the due so far, by the sizes that were looked at -/
def DueI (ls ns : List Int) (i : Nat) (D : List Int) : Prop := Asc D ∧ (∀ x, x ∈ D ↔ x ∈ ls ∧ (x.natAbs : Int) ∈ ns.take i) ∧ D.length ≤ i
theorem due_zero (ls ns : List Int) : DueI ls ns 0 [] := ⟨List.Pairwise.nil, fun x => by simp, Nat.le_refl _⟩
theorem due_next {ls ns D : List Int} {i : Nat} {s lit : Int} (h : DueI ls ns i D) (hs : ns.Pairwise (· ≤ ·)) (hi : ns[i]? = some s) (hn : ∀ x ∈ ls, -x ∉ ls) (hl : lit ∈ ls) (ha : (lit.natAbs : Int) = s) :
    DueI ls ns (i + 1) (if lit ∈ D then D else D ++ [lit]) := by
  obtain ⟨h1, h2, h3⟩ := h
  have ht : ns.take (i + 1) = ns.take i ++ [s] := by rw [List.take_add_one, hi]; rfl
  have one : ∀ x ∈ ls, (x.natAbs : Int) = s → x = lit := by
    intro x hx e
    have : x = lit ∨ x = -lit := by omega
    rcases this with e | e
    · exact e
    · rw [e] at hx
      exact absurd hx (hn lit hl)
  have mem : ∀ x, (x ∈ ls ∧ (x.natAbs : Int) ∈ ns.take (i + 1)) ↔ (x ∈ D ∨ x = lit) := by
    intro x
    rw [ht, List.mem_append, List.mem_singleton, h2 x]
    constructor
    · rintro ⟨a, b | b⟩
      · exact .inl ⟨a, b⟩
      · exact .inr (one x a b)
    · rintro (⟨a, b⟩ | b)
      · exact ⟨a, .inl b⟩
      · rw [b]
        exact ⟨hl, .inr ha⟩
  by_cases hm : lit ∈ D
  · rw [if_pos hm]
    refine ⟨h1, fun x => ?_, by omega⟩
    rw [mem]
    constructor
    · exact .inl
    · rintro (a | a)
      · exact a
      · rw [a]
        exact hm
  · rw [if_neg hm]
    refine ⟨?_, fun x => ?_, by rw [List.length_append, List.length_singleton]; omega⟩
    · unfold Asc
      rw [List.pairwise_append]
      refine ⟨h1, List.pairwise_singleton _ _, fun x hx y hy => ?_⟩
      rw [List.mem_singleton.mp hy]
      obtain ⟨a, b⟩ := (h2 x).mp hx
      have p := hs.sublist (List.take_sublist (i + 1) ns)
      rw [ht, List.pairwise_append] at p
      have le := p.2.2 _ b s (List.mem_singleton.mpr rfl)
      have ne : (x.natAbs : Int) ≠ s := by
        intro e
        exact hm ((one x a e) ▸ hx)
      omega
    · rw [mem, List.mem_append, List.mem_singleton]
theorem due_end {ls ns D : List Int} (h : DueI ls ns ns.length D) (hp : ns.Perm (ls.map fun l : Int => (l.natAbs : Int))) : ClOf ls D := by
  refine ⟨h.1, fun x => ?_⟩
  rw [h.2.1, List.take_length]
  constructor
  · exact fun z => z.1
  · exact fun z => ⟨z, hp.mem_iff.mpr (List.mem_map.mpr ⟨x, z, rfl⟩)⟩
end M

namespace L
open PySem PySem.Spec PyProof.Rows L2 Z DT
/-! heaps: what stays -/
/-- all but lists stay -/
def Mo (H H' : Hp) : Prop := ∀ b x, (∀ l, x ≠ HO.lst l) → H b = some x → H' b = some x
/-- all but lists and dicts stay -/
def Tu (H H' : Hp) : Prop := ∀ b x, (∀ l, x ≠ HO.lst l) → (∀ l, x ≠ HO.dK l) → H b = some x → H' b = some x
section
variable {H H' H1 H2 : Hp} {p q d : Addr} {o : HO}
theorem Mo.refl (H : Hp) : Mo H H := fun _ _ _ e => e
theorem Mo.trans (a : Mo H H1) (b : Mo H1 H2) : Mo H H2 := fun c x n e => b c x n (a c x n e)
theorem Mo.of (s : Same H H') : Mo H H' := fun b x _ e => s b x e
theorem Mo.new (m : Mo H H') (h : H' p = none) : Mo H (upd H' p o) := fun b x n e => by
  rw [upd_ne (ne_of_none (m b x n e) h)]
  exact m b x n e
theorem Mo.own (m : Mo H H') (h : H p = none) : Mo H (upd H' p o) := fun b x n e => by
  rw [upd_ne (ne_of_none e h)]
  exact m b x n e
theorem Mo.lst {l : List V} (m : Mo H H') (h : H p = some (.lst l)) : Mo H (upd H' p o) := fun b x n e => by
  rw [upd_ne (fun z => by subst z; rw [h] at e; exact n _ (Option.some.inj e).symm)]
  exact m b x n e
theorem Tu.of (m : Mo H H') : Tu H H' := fun b x n _ e => m b x n e
theorem Tu.ofS (m : Same H H') : Tu H H' := fun b x _ _ e => m b x e
theorem Tu.trans (a : Tu H H1) (b : Tu H1 H2) : Tu H H2 := fun c x n n2 e => b c x n n2 (a c x n n2 e)
theorem Tu.dict {kvs : List (Key × V)} (h : H d = some (.dK kvs)) : Tu H (upd H d o) := fun b x n n2 e => by
  rw [upd_ne (fun z => by subst z; rw [h] at e; exact n2 _ (Option.some.inj e).symm)]
  exact e
def PoolAt (H : Hp) (q : Addr) : Prop := ∃ o, H q = some o ∧ IsPool o
structure PX (q : Addr) (H H' : Hp) : Prop where
  mo : Mo H H'
  pl : PoolAt H' q
  sx : ∀ b x, b ≠ q → H b = some x → H' b = some x
theorem PX.trans (a : PX q H H1) (b : PX q H1 H2) : PX q H H2 := ⟨a.1.trans b.1, b.2, fun c x n e => b.3 c x n (a.3 c x n e)⟩
theorem PoolAt.same (h : PoolAt H q) (s : Same H H') : PoolAt H' q := by
  obtain ⟨o, h1, h2⟩ := h
  exact ⟨o, s _ _ h1, h2⟩
theorem PX.same (a : PX q H H1) (b : Same H1 H2) : PX q H H2 := ⟨a.1.trans (.of b), a.2.same b, fun c x n e => b c x (a.3 c x n e)⟩
theorem PX.refl (h : PoolAt H q) : PX q H H := ⟨.refl H, h, fun _ _ _ e => e⟩
theorem PX.new (a : PX q H H1) (h : H1 p = none) : PX q H (upd H1 p o) := a.same (same_of (Same.refl _) h)
theorem PX.take (h : PoolAt H q) (hp : IsPool o) : PX q H (upd H q o) := by
  obtain ⟨o', h1, c, k, b, s, rfl⟩ := h
  exact ⟨(Mo.refl H).lst h1, ⟨o, upd_same, hp⟩, fun b x n e => by rw [upd_ne n]; exact e⟩
theorem PX.dict (a : PX q H H1) {kvs : List (Key × V)} {o2 : HO} (h : H d = none) (h1 : H1 d = some (.dK kvs)) (e : o2 = o2) : PX q H (upd H1 d o2) := by
  refine ⟨a.1.own h, ?_, fun b x n e => by rw [upd_ne (ne_of_none e h)]; exact a.3 b x n e⟩
  obtain ⟨o', h2, hp⟩ := a.2
  refine ⟨o', ?_, hp⟩
  rw [upd_ne]
  · exact h2
  · rintro rfl
    rw [h2] at h1
    obtain ⟨c, k, b, s, rfl⟩ := hp
    cases h1
theorem PX.own (h : H q = none) (a : PX q (upd H q o) H') : Same H H' := fun b x e => a.3 b x (ne_of_none e h) (by rw [upd_ne (ne_of_none e h)]; exact e)
end
section
variable {K : PySem.W.Frag} {H H' : Hp}
theorem sqT_tu {a : Addr} {xs : List V} (h : SqT K H a xs) (s : Tu H H') : SqT K H' a xs := by
  rcases h with (h | ⟨o, h⟩) | h
  · exact .inl (.inl (s _ _ (fun l e => by cases e) (fun l e => by cases e) h))
  · exact .inl (.inr ⟨o, s _ _ (fun l e => by cases e) (fun l e => by cases e) h⟩)
  · exact .inr h
theorem w_tdget {td ty : TE} {σ : L2.St} {Q : VK} (h : td σ H fun x H1 => ty σ H1 fun y H2 => ∃ a v, x = .ref a ∧ DGet H2 a y (some v) ∧ Q v H2) : tDGet td ty σ H Q := h
theorem w_tdget2 {td ty tx : TE} {σ : L2.St} {Q : VK} (h : td σ H fun x H1 => ∃ a, x = .ref a ∧ IsD H1 a ∧ ty σ H1 fun y H2 => tx σ H2 fun z H3 => ∃ o, DGet H3 a y o ∧ Q (o.getD z) H3) : tDGet2 td ty tx σ H Q := h
theorem seqIf {tt : TT} {t t' u : TS} {D : Ends} {σ : L2.St} (k : L2.St → Hp → Prop) (h : ∀ R : L2.St → Hp → Prop, (∀ σ' H', k σ' H' → R σ' H') → tIfS tt t t' { D with nx := R } σ H) (hk : ∀ σ' H', k σ' H' → u D σ' H') : tSeq (tIfS tt t t') u D σ H := h (u D) hk
theorem seqAnd {ta tb : TE} {g : TG} {u : TS} {D : Ends} {σ : L2.St} (k : V → Hp → Prop) (h : ∀ Q : VK, (∀ x H1, k x H1 → Q x H1) → tAndV ta tb σ H Q) (hk : ∀ x H1, k x H1 → g x σ H1 (u D)) : tSeq (tAsg (tAndV ta tb) g) u D σ H := h _ hk
end
end L
namespace L
open PySem PySem.Spec PyProof.Rows L2 Z DT
theorem PX.refl' {q : Addr} {H H' : Hp} (h : PX q H H') : PoolAt H' q := h.2
section
variable {P : Program} {w : World} {K : PySem.W.Frag} {mg : Str → Option Value} {base : Heap}
theorem tyx_T {H : Hp} {a : Addr} {xs : List V} (h : SqT K H a xs) : TyX K H (.ref a) (.type "tuple") := by
  rcases h with (h | ⟨o, h⟩) | ⟨o, its, n, h, c, _⟩
  · exact .base (.tup h)
  · exact .fTuple h
  · exact .kTuple h c
theorem w_isiT_T {H : Hp} {p : Addr} {xs : List V} {Q : VK} (h : SqT K H p xs) (q : Q (.bl true) H) : rIsi K [.ref p, .ty "tuple"] H Q := w_isi (.ty _) (tyx_T h) (kit_ty (by decide +kernel)) q
theorem use_takeP {q : Addr} {n : Int} {H : Hp} {Q : VK} {E : XK} (h : PoolAt H q) (h1 : 0 < n) (h2 : n < 1073741824) (hq : ∀ r H', PX q H H' → 0 ≤ r → r < n → Q (.int r) H') : spTake [.ref q, .int n] H Q E := by
  obtain ⟨o, ho, hp⟩ := id h
  exact ⟨q, o, n, rfl, ho, hp, h1, h2, fun r o' a b c => hq r _ (.take h c) a b⟩
end
end L

namespace L
open PySem PySem.Spec PyProof.Rows L2 Z M
section
variable {P : Program} {w : World} {K : PySem.W.Frag} {mg : Str → Option Value} {base : Heap}
theorem w_fldT {C o dx : Addr} {f : Str} {v : V} {fs : List (Str × V)} {σ : L2.St} {H : Hp} {Q : VK} (hc : Cls K C) (hn : NoAttr K C f) (h1 : H o = some (.ins C dx fs)) (hl : fs.lookup f = some v) (q : Q v H) : tFld K (tVar 0) f (some (.ref o) :: σ) H Q :=
  Z.w_var (v := V.ref o) rfl ⟨o, C, dx, _, _, rfl, h1, hc, hn, hl, q⟩
theorem abs_nat (i : Int) : (if i < 0 then -i else i) = (i.natAbs : Int) := by split <;> omega
theorem w_meth0 {C o dx : Addr} {m : Str} {sp : Sp} {E : XK} {t : TA} {i : Nat} {fs : List (Str × V)} {σ : L2.St} {H : Hp} {Q : VK} (h1 : H o = some (.ins C dx fs)) (hσ : σ[i]? = some (some (.ref o))) (hm : fs.lookup m = none) (q : t σ H fun vs H2 => sp (.ref o :: (vs ++ [])) H2 Q E) : tMeth C m sp [] E (tVar i) t σ H Q :=
  Z.w_var hσ ⟨o, dx, _, rfl, h1, hm, q⟩
theorem w_tdget1 {td ty : TE} {σ : L2.St} {H : Hp} {Q : VK} (h : td σ H fun x H1 => ∃ a, x = .ref a ∧ IsD H1 a ∧ ty σ H1 fun y H2 => ∃ o, DGet H2 a y o ∧ Q (o.getD .non) H2) : tDGet1 td ty σ H Q := h
theorem ne_ins {H : Hp} {o b C dx : Addr} {fs : List (Str × V)} {u : HO} (h1 : H o = some (.ins C dx fs)) (h2 : H b = some u) (h : ∀ C dx fs, u ≠ .ins C dx fs) : o ≠ b := fun e => by
  subst e
  rw [h1] at h2
  exact h _ _ _ (Option.some.inj h2).symm
theorem ne_ld {H : Hp} {a b : Addr} {xs : List V} {kvs : List (Key × V)} (h1 : H a = some (.lst xs)) (h2 : H b = some (.dK kvs)) : a ≠ b := fun e => by
  subst e
  rw [h1] at h2
  cases h2
theorem w_fldaug {ta tv : TE} {rd : V → V → Hp → VK → Prop} {f : Str} {D : Ends} {σ : L2.St} {H : Hp} (h : ta σ H fun x H1 => ∃ a C dx fs v, x = .ref a ∧ H1 a = some (.ins C dx fs) ∧ Cls K C ∧ NoAttr K C f ∧ fs.lookup f = some v ∧
  tv σ H1 fun y H2 => rd v y H2 fun z H3 => ∃ dx' fs', H3 a = some (.ins C dx' fs') ∧ fs'.length < 1000 ∧ D.nx σ (upd H3 a (.ins C dx' (putF f z fs')))) : sFldAug K ta tv rd f D σ H := h
theorem lst_eq {H : Hp} {a : Addr} {xs ys : List V} (h : H a = some (.lst xs)) (e : xs = ys) : H a = some (.lst ys) := e ▸ h
theorem dK_eq {H : Hp} {a : Addr} {xs ys : List (Key × V)} (h : H a = some (.dK xs)) (e : xs = ys) : H a = some (.dK ys) := e ▸ h
theorem upd_self {H : Hp} {a : Addr} {o : HO} (h : H a = some o) : upd H a o = H := by
  funext b
  by_cases e : b = a
  · rw [e, upd_same, h]
  · rw [upd_ne e]
theorem fresh_of1 {H H' : Hp} {p : Addr} (s : Same H H') (h : H' p = none) : H p = none := by
  cases e : H p with
  | none => rfl
  | some o => rw [s _ _ e] at h; cases h
theorem cut_from {xs : List V} {s : Nat} (h : s ≤ xs.length) : cutV xs (some (s : Int)) none = xs.drop s := by
  unfold cutV
  rw [HT.sIx_nat, HT.sIx_none, Nat.min_eq_left h, List.take_of_length_le (by rw [List.length_drop]; exact Nat.le_refl _)]
theorem cut_to {xs : List V} {s : Nat} (h : s ≤ xs.length) : cutV xs none (some (s : Int)) = xs.take s := by
  unfold cutV
  rw [HT.sIx_nat, HT.sIx_none, Nat.min_eq_left h, List.drop_zero, Nat.sub_zero]
theorem w_slice {r : V → Option Int → Option Int → Hp → VK → Prop} {te : TE} {tl th : TO} {σ : L2.St} {H : Hp} {Q : VK} (h : te σ H fun x H1 => tl σ H1 fun l H2 => th σ H2 fun u H3 => r x l u H3 Q) : L2.tSl r te tl th σ H Q := h
theorem w_nopart {σ : L2.St} {H : Hp} {R : Option Int → Hp → Prop} (h : R none H) : tNoPart σ H R := h
theorem w_part {t : TE} {σ : L2.St} {H : Hp} {R : Option Int → Hp → Prop} (h : t σ H fun x H1 => ∃ i, x = .int i ∧ R (some i) H1) : tPart t σ H R := h
theorem w_slFrom {a : Addr} {xs : List V} {s : Nat} {H : Hp} {Q : VK} (h : SqL K H a xs) (hs : s ≤ xs.length) (q : ∀ p, H p = none → Q (.ref p) (upd H p (.lst (xs.drop s)))) : rSlL K (.ref a) (some (s : Int)) none H Q :=
  ⟨a, xs, rfl, h, fun p hp => by rw [cut_from hs]; exact q p hp⟩
theorem w_slTo {a : Addr} {xs : List V} {s : Nat} {H : Hp} {Q : VK} (h : SqL K H a xs) (hs : s ≤ xs.length) (q : ∀ p, H p = none → Q (.ref p) (upd H p (.lst (xs.take s)))) : rSlL K (.ref a) none (some (s : Int)) H Q :=
  ⟨a, xs, rfl, h, fun p hp => by rw [cut_to hs]; exact q p hp⟩
theorem w_ddel {td ty : TE} {D : Ends} {σ : L2.St} {H : Hp} (h : td σ H fun x H1 => ty σ H1 fun y H2 => ∃ a kvs k, x = .ref a ∧ H2 a = some (.dK kvs) ∧ y = kV k ∧ (valV kvs k).isSome = true ∧ D.nx σ (upd H2 a (.dK (dropK kvs k)))) : sDDel td ty D σ H := h
structure InitSt (H0 Hc : Hp) (o C dx : Addr) (fs : List (Str × V)) (os : List (Addr × HO)) : Prop where
  sm : Same H0 Hc
  ob : Hc o = some (.ins C dx fs)
  all : ∀ p ∈ os, Hc p.1 = some p.2 ∧ H0 p.1 = none ∧ p.1 ≠ o
  nd : (os.map (·.1)).Nodup
theorem InitSt.step {H0 Hc : Hp} {o C dx l : Addr} {u : HO} {fs fs' : List (Str × V)} {os : List (Addr × HO)} (h : InitSt H0 Hc o C dx fs os) (h0 : H0 o = none) (hl : Hc l = none) : InitSt H0 (upd (upd Hc l u) o (.ins C dx fs')) o C dx fs' (os ++ [(l, u)]) := by
  have nl : l ≠ o := fun e => by subst e; rw [h.ob] at hl; cases hl
  have fl := fresh_of1 h.sm hl
  refine ⟨same_mut (same_of h.sm hl) h0, upd_same, fun p hp => ?_, ?_⟩
  · rcases List.mem_append.mp hp with m | m
    · obtain ⟨g1, g2, g3⟩ := h.all p m
      exact ⟨by rw [upd_ne g3]; exact upd_of hl g1, g2, g3⟩
    · obtain rfl := List.mem_singleton.mp m
      exact ⟨by rw [upd_ne nl, upd_same], fl, nl⟩
  · rw [List.map_append, List.nodup_append]
    refine ⟨h.nd, by simp, fun a ha b hb e => ?_⟩
    obtain rfl : b = l := by simpa using hb
    subst e
    obtain ⟨p, hp, rfl⟩ := List.mem_map.mp ha
    rw [(h.all p hp).1] at hl
    cases hl
theorem w_fld {ta tv : TE} {f : Str} {D : Ends} {σ : L2.St} {H : Hp} (h : tv σ H fun y H1 => ta σ H1 fun x H2 => ∃ a C dx fs, x = .ref a ∧ H2 a = some (.ins C dx fs) ∧ Cls K C ∧ NoAttr K C f ∧ fs.length < 1000 ∧ D.nx σ (upd H2 a (.ins C dx (putF f y fs)))) : sFld K ta tv f D σ H := h
theorem putF_new {f : Str} {v : V} : ∀ {fs : List (Str × V)}, f ∉ fs.map (·.1) → putF f v fs = fs ++ [(f, v)]
  | [], _ => rfl
  | (g, x) :: r, h => by
    rw [List.map_cons, List.mem_cons, not_or] at h
    show (if g = f then _ else _) = _
    rw [if_neg (fun e => h.1 e.symm), putF_new h.2]
    rfl
theorem w_initL {C o dx : Addr} {f : Str} {D : Ends} {σ : L2.St} {H0 H : Hp} {fs : List (Str × V)} {os : List (Addr × HO)} (h : InitSt H0 H o C dx fs os) (h0 : H0 o = none) (hc : Cls K C) (hn : NoAttr K C f) (nm : List Str) (e : fs.map (·.1) = nm) (hf : f ∉ nm) (hl : fs.length < 1000) (q : ∀ l H', InitSt H0 H' o C dx (fs ++ [(f, .ref l)]) (os ++ [(l, .lst [])]) → D.nx (some (.ref o) :: σ) H') : sFld K (tVar 0) (tLst tNil) f D (some (.ref o) :: σ) H := by
  refine w_fld (Z.w_lst (Z.w_nil ⟨Nat.zero_le _, fun l hl' => Z.w_var (v := V.ref o) rfl ⟨o, C, dx, fs, rfl, upd_of hl' h.ob, hc, hn, hl, by rw [putF_new (by rw [e]; exact hf)]; exact q l _ (h.step h0 hl')⟩⟩))
theorem w_initD {C o dx : Addr} {f : Str} {D : Ends} {σ : L2.St} {H0 H : Hp} {fs : List (Str × V)} {os : List (Addr × HO)} (h : InitSt H0 H o C dx fs os) (h0 : H0 o = none) (hc : Cls K C) (hn : NoAttr K C f) (nm : List Str) (e : fs.map (·.1) = nm) (hf : f ∉ nm) (hl : fs.length < 1000) (q : ∀ l H', InitSt H0 H' o C dx (fs ++ [(f, .ref l)]) (os ++ [(l, .dK [])]) → D.nx (some (.ref o) :: σ) H') : sFld K (tVar 0) tDNewK f D (some (.ref o) :: σ) H := by
  refine w_fld (Z.w_dnew fun l hl' => Z.w_var (v := V.ref o) rfl ⟨o, C, dx, fs, rfl, upd_of hl' h.ob, hc, hn, hl, by rw [putF_new (by rw [e]; exact hf)]; exact q l _ (h.step h0 hl')⟩)
theorem w_initC {C o dx : Addr} {f : Str} {v : V} {D : Ends} {σ : L2.St} {H0 H : Hp} {fs : List (Str × V)} {os : List (Addr × HO)} (h : InitSt H0 H o C dx fs os) (h0 : H0 o = none) (hc : Cls K C) (hn : NoAttr K C f) (nm : List Str) (e : fs.map (·.1) = nm) (hf : f ∉ nm) (hl : fs.length < 1000) (q : ∀ H', InitSt H0 H' o C dx (fs ++ [(f, v)]) os → D.nx (some (.ref o) :: σ) H') : sFld K (tVar 0) (tC v) f D (some (.ref o) :: σ) H :=
  w_fld (Z.w_c (Z.w_var (v := V.ref o) rfl ⟨o, C, dx, fs, rfl, h.ob, hc, hn, hl, by rw [putF_new (by rw [e]; exact hf)]; exact q _ ⟨same_mut h.sm h0, upd_same, fun p hp => by
    obtain ⟨g1, g2, g3⟩ := h.all p hp
    exact ⟨by rw [upd_ne g3]; exact g1, g2, g3⟩, h.nd⟩⟩))
theorem putF_nil (f : Str) (v : V) : putF f v [] = [(f, v)] := rfl
theorem fresh_px {q p : Addr} {H H' : Hp} (s : PX q H H') (hq : PoolAt H q) (h : H' p = none) : H p = none := by
  cases e : H p with
  | none => rfl
  | some o =>
    by_cases n : p = q
    · subst n
      obtain ⟨o', h', _⟩ := s.pl
      rw [h'] at h
      cases h
    · rw [s.sx _ _ n e] at h
      cases h
theorem lst_len {ns : List Int} : (ns.map V.int).length = ns.length := List.length_map _
theorem w_make {C : Addr} {sp : Sp} {dvs : List V} {E : XK} {t : TA} {σ : L2.St} {H : Hp} {Q : VK} (h : t σ H fun vs H1 => ∀ x dx, H1 x = none → H1 dx = none → dx ≠ x → sp (.ref x :: (vs ++ dvs)) (upd (upd H1 dx (.own x)) x (.ins C dx [])) (fun v H2 => v = .non ∧ Q (.ref x) H2) E) : tMake C sp dvs E t σ H Q := h
/-- tuples stay -/
def TupS (H H' : Hp) : Prop := ∀ b xs, H b = some (.tup xs) → H' b = some (.tup xs)
theorem TupS.ofM {H H' : Hp} (h : Mo H H') : TupS H H' := fun b xs e => h b _ (fun l z => by cases z) e
theorem TupS.of {H H' : Hp} (h : Same H H') : TupS H H' := fun b xs e => h b _ e
theorem TupS.trans {H H1 H2 : Hp} (a : TupS H H1) (b : TupS H1 H2) : TupS H H2 := fun c xs e => b c xs (a c xs e)
theorem tup_pool {q b : Addr} {xs : List V} {H : Hp} (h : PoolAt H q) (hb : H b = some (.tup xs)) : b ≠ q := by
  rintro rfl
  obtain ⟨o, h1, c, k, d, e, rfl⟩ := h
  rw [h1] at hb
  cases hb
theorem w_dsetd {td ty tx : TE} {σ : L2.St} {H : Hp} {Q : VK} (h : td σ H fun x H1 => ∃ a, x = .ref a ∧ IsD H1 a ∧ ty σ H1 fun y H2 => tx σ H2 fun z H3 => ∃ (kvs : List (Key × V)) (k : Key), H3 a = some (.dK kvs) ∧ y = kV k ∧ kvs.length < sizeLine ∧ (∀ v, valV kvs k = some v → Q v H3) ∧ (valV kvs k = none → Q z (upd H3 a (.dK (putK kvs k z))))) : tDSetd td ty tx σ H Q := h
end
end L

namespace L
open PySem PySem.Spec PyProof.Rows L2 Z
/-- a dict comprehension over a walk -/
theorem dc_it {J : It} {n : Nat} {G : Hp → Prop} {Y : Nat → Hp → V → Hp → Prop} (w : Walk J n G Y) {g : TG} {tt : TT} {tk tv : TE} {vs : List Nat} {σ : L2.St} {H1 : Hp} {D : Addr} {Qd : Hp → Prop} (Pv : Nat → Hp → Prop) (h0 : Pv 0 (upd H1 D (.dK []))) (hG : ∀ i H, i ≤ n → Pv i H → G H)
    (hs : ∀ i x H H', i < n → Pv i H → Y i H x H' → g x (wipe σ vs) H' fun σ2 H2 => wipe σ2 vs = wipe σ vs ∧ tt σ2 H2 fun b H3 =>
      if b = true then tk σ2 H3 fun y H4 => tv σ2 H4 fun z H5 => ∃ kvs k, y = kV k ∧ H5 D = some (.dK kvs) ∧ kvs.length < sizeLine ∧ Pv (i + 1) (upd H5 D (.dK (putK kvs k z))) else Pv (i + 1) H3) (hd : ∀ H, Pv n H → Qd H) :
    ∃ W : Nat → Nat → Hp → Prop, (∃ m, W 0 m (upd H1 D (.dK []))) ∧ ∀ i m H, W i m H →
      (J.stop i H ∧ Qd H) ∨ (J.go i H ∧ ∃ Nx : Hp → Prop, (∀ H', Nx H' → ∃ m', m' < m ∧ W (i + 1) m' H') ∧ ∀ x H', J.yld i H x H' → g x (wipe σ vs) H' fun σ2 H2 => wipe σ2 vs = wipe σ vs ∧ tt σ2 H2 fun b H3 =>
        if b = true then tk σ2 H3 fun y H4 => tv σ2 H4 fun z H5 => ∃ kvs k, y = kV k ∧ H5 D = some (.dK kvs) ∧ kvs.length < sizeLine ∧ Nx (upd H5 D (.dK (putK kvs k z))) else Nx H3) := by
  refine ⟨fun i m H => m = n - i ∧ i ≤ n ∧ Pv i H, ⟨n, by simp, Nat.zero_le _, h0⟩, ?_⟩
  rintro i m H ⟨rfl, hi, p⟩
  have q := hG i H hi p
  by_cases hlt : i < n
  · refine .inr ⟨w.goes i H hlt q, Pv (i + 1), fun H' p' => ⟨n - (i + 1), by omega, rfl, hlt, p'⟩, fun x H' y => hs i x H H' hlt p (w.yields i H x H' hlt q y)⟩
  · have e : i = n := by omega
    subst e
    exact .inl ⟨w.stops H q, hd H p⟩
theorem w_dc {wi : TI} {g : TG} {tt : TT} {tk tv : TE} {ivs : List Nat} {σ : L2.St} {H : Hp} {Q : VK} (h : wi σ H fun J H1 => ∀ D, H1 D = none → ∃ W : Nat → Nat → Hp → Prop, (∃ m, W 0 m (upd H1 D (.dK []))) ∧ ∀ i m H, W i m H →
  (J.stop i H ∧ Q (.ref D) H) ∨ (J.go i H ∧ ∃ Nx : Hp → Prop, (∀ H', Nx H' → ∃ m', m' < m ∧ W (i + 1) m' H') ∧ ∀ x H', J.yld i H x H' → g x (wipe σ ivs) H' fun σ2 H2 => wipe σ2 ivs = wipe σ ivs ∧ tt σ2 H2 fun b H3 =>
    if b = true then tk σ2 H3 fun y H4 => tv σ2 H4 fun z H5 => ∃ kvs k, y = kV k ∧ H5 D = some (.dK kvs) ∧ kvs.length < sizeLine ∧ Nx (upd H5 D (.dK (putK kvs k z))) else Nx H3)) : tDc wi g tt tk tv ivs σ H Q := h
end L

local macro_rules | `(tactic| walk_at "cond") => `(tactic| first | assumption | fail "cond")
local macro_rules | `(tactic| walk_at "pl") => `(tactic| first | assumption | exact L.PX.refl' (by assumption) | exact L.PoolAt.same (by assumption) (Z.same_of (L2.Same.refl _) (by assumption)) | fail "pl")
local macro_rules | `(tactic| walk_at "w1") => `(tactic| first
  | ((with_reducible refine' Z.w_ixT ?wh ?wa ?_); (case wh => walk_at "seq"); (case wa => exact rfl))
  | ((with_reducible refine' Z.w_gtup ?wh ?wa ?_); (case wh => walk_at "seq"); (case wa => exact rfl))
  | ((with_reducible refine' L.use_takeP ?wh ?wa ?wb (fun r H1 p1 h0 h1 => ?_)); (case wh => walk_at "pl"); (case wa => omega); (case wb => omega))
  | with_reducible refine L.use_whole ?_
  | with_reducible refine L.w_slice ?_
  | with_reducible refine L.w_nopart ?_
  | with_reducible refine L.w_part ?_
  | fail "w1")

local macro_rules | `(tactic| walk_at "w1") => `(tactic| first
  | with_reducible refine L.w_tdget ?_
  | with_reducible refine L.w_tdget2 ?_
  | with_reducible refine Z.w_rEqI ?_
  | with_reducible refine Z.w_rNeI ?_
  | ((with_reducible refine' Z.w_rEq ?wh ?_); (case wh => exact rfl))
  | ((with_reducible refine' Z.w_rNe ?wh ?_); (case wh => exact rfl))
  | fail "w1")

namespace L
open PySem PySem.Spec PyProof.Rows L2 Z M WY HQ
/-! the object of the ways -/
def limT (r : Lim) : List V := [.int (lx r), .int (ly r), .int (lk r), .int (ll r)]
def LimV (H : Hp) (us : List V) (rs : List Lim) : Prop := us.length = rs.length ∧ ∀ (i : Nat) (r : Lim), rs[i]? = some r → ∃ t, us[i]? = some (V.ref t) ∧ H t = some (.tup (limT r))
theorem LimV.nil {H : Hp} : LimV H [] [] := ⟨rfl, fun k r h => by simp at h⟩
theorem LimV.tup {H H' : Hp} {us : List V} {rs : List Lim} (h : LimV H us rs) (s : TupS H H') : LimV H' us rs := ⟨h.1, fun k r e => by
  obtain ⟨p, h1, h2⟩ := h.2 k r e
  exact ⟨p, h1, s _ _ h2⟩⟩
theorem LimV.snoc {H : Hp} {us : List V} {rs : List Lim} {t : Addr} {r : Lim} (h : LimV H us rs) (ht : H t = some (.tup (limT r))) : LimV H (us ++ [.ref t]) (rs ++ [r]) := by
  refine ⟨by simp [h.1], fun i x hx => ?_⟩
  by_cases hi : i < rs.length
  · rw [List.getElem?_append_left hi] at hx
    obtain ⟨u, h1, h2⟩ := h.2 i x hx
    exact ⟨u, by rw [List.getElem?_append_left (by rw [h.1]; exact hi)]; exact h1, h2⟩
  · have h2 := (List.getElem?_eq_some_iff.mp hx).1
    rw [List.length_append, List.length_singleton] at h2
    obtain rfl : i = rs.length := by omega
    rw [List.getElem?_append_right (Nat.le_refl _), Nat.sub_self] at hx
    obtain rfl := Option.some.inj hx
    exact ⟨t, by rw [List.getElem?_append_right (by rw [h.1]; exact Nat.le_refl _), h.1, Nat.sub_self]; rfl, ht⟩
def hD (ks : List Int) (h : Int → Int) : List (Key × V) := ks.map fun p => (Sum.inl p, V.int (h p))
def lD (ks : List Int) (la : Int → Addr) : List (Key × V) := ks.map fun p => (Sum.inl p, V.ref (la p))
theorem valV_map_int (f : Int → V) : ∀ (ks : List Int) (p : Int), valV (ks.map fun p => ((Sum.inl p : Key), f p)) (Sum.inl p) = if p ∈ ks then some (f p) else none
  | [], p => rfl
  | q :: ks, p => by
    rw [List.map_cons]
    by_cases e : q = p
    · subst e
      rw [valV_pos (p := (Sum.inl q, f q)) rfl, if_pos List.mem_cons_self]
    · rw [valV_neg (p := (Sum.inl q, f q)) (fun z => e (Sum.inl.inj z)), valV_map_int f ks p]
      by_cases hp : p ∈ ks
      · rw [if_pos hp, if_pos (List.mem_cons_of_mem _ hp)]
      · rw [if_neg hp, if_neg (fun z => (List.mem_cons.mp z).elim (fun z => e z.symm) hp)]
theorem hD_get (ks : List Int) (h : Int → Int) (p : Int) : valV (hD ks h) (Sum.inl p) = if p ∈ ks then some (.int (h p)) else none := valV_map_int (fun p => .int (h p)) ks p
theorem lD_get (ks : List Int) (la : Int → Addr) (p : Int) : valV (lD ks la) (Sum.inl p) = if p ∈ ks then some (.ref (la p)) else none := valV_map_int (fun p => .ref (la p)) ks p
structure WyO where
  dx : Addr
  li : Addr
  hd : Addr
  le : Addr
def WyO.fs (w : WyO) (s : Nat) : List (Str × V) := [("_limits", .ref w.li), ("_settled", .int (s : Int)), ("_heights", .ref w.hd), ("_leaning", .ref w.le)]
/-- the numbers of the settled limits that lean on a place -/
def leans (rs : List Lim) (s : Nat) (p : Int) : List Nat := (List.range s).filter fun i => decide (gy rs i = p)
def iV (ns : List Nat) : List V := ns.map fun n : Nat => V.int (n : Int)
structure WyC (C : Addr) (H : Hp) (o : Addr) (w : WyO) (ks : List Int) (h : Int → Int) (la : Int → Addr) (rs : List Lim) (s : Nat) : Prop where
  ob : H o = some (.ins C w.dx (w.fs s))
  li : ∃ us, H w.li = some (.lst us) ∧ LimV H us rs
  hd : H w.hd = some (.dK (hD ks h))
  le : H w.le = some (.dK (lD ks la))
  ln : ∀ p ∈ ks, H (la p) = some (.lst (iV (leans rs s p)))
  inj : ∀ p ∈ ks, ∀ q ∈ ks, la p = la q → p = q
  ll : ∀ p ∈ ks, la p ≠ w.li
  dd : w.hd ≠ w.le
  nd : ks.Nodup
  k0 : (0 : Int) ∈ ks
  sl : s ≤ rs.length
  fe : Feas rs s h
  sz : rs.length ≤ 1000 ∧ ks.length ≤ 5000
/-- all that its methods change -/
def mutW (o : Addr) (w : WyO) (ks : List Int) (la : Int → Addr) : List Addr := o :: w.li :: w.hd :: w.le :: ks.map la
def FrW (o : Addr) (w : WyO) (ks : List Int) (la : Int → Addr) (H H' : Hp) : Prop := ∀ b u, b ∉ mutW o w ks la → H b = some u → H' b = some u
theorem FrW.refl {o : Addr} {w : WyO} {ks : List Int} {la : Int → Addr} (H : Hp) : FrW o w ks la H H := fun _ _ _ e => e
theorem FrW.of {o : Addr} {w : WyO} {ks : List Int} {la : Int → Addr} {H H' : Hp} (s : Same H H') : FrW o w ks la H H' := fun b u _ e => s b u e
theorem FrW.trans {o : Addr} {w : WyO} {ks : List Int} {la : Int → Addr} {H H1 H2 : Hp} (a : FrW o w ks la H H1) (b : FrW o w ks la H1 H2) : FrW o w ks la H H2 := fun c u n e => b c u n (a c u n e)
theorem FrW.put {o : Addr} {w : WyO} {ks : List Int} {la : Int → Addr} {H H1 : Hp} (a : FrW o w ks la H H1) {b : Addr} {u : HO} (hb : b ∈ mutW o w ks la) : FrW o w ks la H (upd H1 b u) := fun c x n e => by
  rw [upd_ne (fun z => n (by rw [z]; exact hb))]
  exact a c x n e
section
variable {o : Addr} {w : WyO} {ks : List Int} {la : Int → Addr}
theorem m_o : o ∈ mutW o w ks la := List.mem_cons_self
theorem m_li : w.li ∈ mutW o w ks la := List.mem_cons_of_mem _ List.mem_cons_self
theorem m_hd : w.hd ∈ mutW o w ks la := List.mem_cons_of_mem _ (List.mem_cons_of_mem _ List.mem_cons_self)
theorem m_le : w.le ∈ mutW o w ks la := List.mem_cons_of_mem _ (List.mem_cons_of_mem _ (List.mem_cons_of_mem _ List.mem_cons_self))
theorem m_la {p : Int} (h : p ∈ ks) : la p ∈ mutW o w ks la := List.mem_cons_of_mem _ (List.mem_cons_of_mem _ (List.mem_cons_of_mem _ (List.mem_cons_of_mem _ (List.mem_map.mpr ⟨p, h, rfl⟩))))
end
theorem WyC.has {C : Addr} {H : Hp} {o : Addr} {w : WyO} {ks : List Int} {h : Int → Int} {la : Int → Addr} {rs : List Lim} {s : Nat} (W : WyC C H o w ks h la rs s) {b : Addr} (hb : b ∈ mutW o w ks la) : ∃ u, H b = some u ∧ (∀ xs, u ≠ .tup xs) := by
  simp only [mutW, List.mem_cons, List.mem_map] at hb
  rcases hb with rfl | rfl | rfl | rfl | ⟨p, hp, rfl⟩
  · exact ⟨_, W.ob, fun _ z => by cases z⟩
  · obtain ⟨us, h1, _⟩ := W.li
    exact ⟨_, h1, fun _ z => by cases z⟩
  · exact ⟨_, W.hd, fun _ z => by cases z⟩
  · exact ⟨_, W.le, fun _ z => by cases z⟩
  · exact ⟨_, W.ln p hp, fun _ z => by cases z⟩
theorem WyC.tupS {C : Addr} {H H' : Hp} {o : Addr} {w : WyO} {ks : List Int} {h : Int → Int} {la : Int → Addr} {rs : List Lim} {s : Nat} (W : WyC C H o w ks h la rs s) (f : FrW o w ks la H H') : TupS H H' := fun b xs hb => f b _ (fun z => by
  obtain ⟨u, h1, h2⟩ := W.has z
  rw [hb] at h1
  exact h2 xs (Option.some.inj h1).symm) hb
theorem WyC.same {C : Addr} {H H' : Hp} {o : Addr} {w : WyO} {ks : List Int} {h : Int → Int} {la : Int → Addr} {rs : List Lim} {s : Nat} (W : WyC C H o w ks h la rs s) (sm : ∀ b u, b ∈ mutW o w ks la → H b = some u → H' b = some u) (tp : TupS H H') : WyC C H' o w ks h la rs s := by
  obtain ⟨ob, ⟨us, l1, l2⟩, hd, le, ln, inj, ll, dd, nd, k0, sl, fe, sz⟩ := W
  exact ⟨sm _ _ m_o ob, ⟨us, sm _ _ m_li l1, l2.tup tp⟩, sm _ _ m_hd hd, sm _ _ m_le le, fun p hp => sm _ _ (m_la hp) (ln p hp), inj, ll, dd, nd, k0, sl, fe, sz⟩
theorem leans_none {rs : List Lim} {s : Nat} {p : Int} (hs : s ≤ rs.length) (h : ∀ r ∈ rs, ly r ≠ p) : leans rs s p = [] := by
  unfold leans
  rw [List.filter_eq_nil_iff]
  intro i hi
  have hi2 := List.mem_range.mp hi
  have hr : rs[i]? = some rs[i] := List.getElem?_eq_getElem (by omega)
  rw [gy_at hr]
  simpa using h _ (List.getElem_mem _)
theorem leans_snoc {rs : List Lim} {s : Nat} {p : Int} (r : Lim) (hs : s ≤ rs.length) : leans (rs ++ [r]) s p = leans rs s p := by
  unfold leans
  refine List.filter_congr fun i hi => ?_
  have := List.mem_range.mp hi
  unfold gy
  rw [List.getElem?_append_left (by omega)]
theorem leans_mem {rs : List Lim} {s : Nat} {p : Int} {i : Nat} : i ∈ leans rs s p ↔ i < s ∧ gy rs i = p := by
  unfold leans
  rw [List.mem_filter, List.mem_range]
  simp
end L

namespace L
open PySem PySem.Spec PyProof.Rows L2 Z M WY HQ
section
variable {P : Program} {w' : World} {K : PySem.W.Frag} {mg : Str → Option Value} {base : Heap}
def spLimits (C : Addr) : Sp := fun vs H Q _ => ∃ (o : Addr) (w : WyO) (ks : List Int) (h : Int → Int) (la : Int → Addr) (rs : List Lim) (s : Nat), vs = [.ref o] ∧ WyC C H o w ks h la rs s ∧ Q (.int (rs.length : Int)) H
theorem ok_limits (T : Txt K mg) : FnOk P w' K mg base CX0 1 T.f_Ways_limits T.fd_Ways_limits ["self"] (spLimits T.C_Ways) := by
  refine T.F_Ways_limits.ok sc_Ways_limits (fun vs H Q E h => ?_) (fun cdv A outer s H vs Q E hr h => ?_)
  · obtain ⟨o, w, ks, hh, la, rs, s, rfl, _⟩ := h
    rfl
  · obtain ⟨o, w, ks, hh, la, rs, s, rfl, W, h⟩ := h
    obtain ⟨us, l1, l2⟩ := W.li
    refine ⟨_, (pss_one (ps_ret (pe_callB call_len_seq (by rfl) T.m_len (by decide +kernel) (pa_cons (pe_fld (pv 0) rfl) pa_nil)))), ?_⟩
    refine Z.w_start (σ' := [some (.ref o)]) rfl ?_
    walk_at "w"
    refine w_fldT T.cl_Ways T.n_Ways__limits W.ob rfl ?_
    walk_at "w"
    rw [l2.1]
    exact h
theorem InitSt.step2 {H0 Hc : Hp} {o C dx p l : Addr} {u0 u1 u2 : HO} {fs fs' : List (Str × V)} {os : List (Addr × HO)} (h : InitSt H0 Hc o C dx fs os) (h0 : H0 o = none) (hp : Hc p = none) (hl : (upd Hc p u0) l = none) : InitSt H0 (upd (upd (upd (upd Hc p u0) l u1) p u2) o (.ins C dx fs')) o C dx fs' (os ++ [(p, u2), (l, u1)]) := by
  have npo : p ≠ o := fun e => by subst e; rw [h.ob] at hp; cases hp
  have nlp : l ≠ p := fun e => by subst e; rw [upd_same] at hl; cases hl
  have hl' : Hc l = none := by rw [upd_ne nlp] at hl; exact hl
  have nlo : l ≠ o := fun e => by subst e; rw [h.ob] at hl'; cases hl'
  have fp := fresh_of1 h.sm hp
  have fl := fresh_of1 h.sm hl'
  have s1 := same_of (same_of h.sm hp (o := u0)) hl (o := u1)
  refine ⟨same_mut (same_mut s1 fp) h0, upd_same, fun q hq => ?_, ?_⟩
  · rcases List.mem_append.mp hq with m | m
    · obtain ⟨g1, g2, g3⟩ := h.all q m
      refine ⟨?_, g2, g3⟩
      rw [upd_ne g3, upd_ne (ne_of_none g1 hp), upd_ne (ne_of_none g1 hl'), upd_ne (ne_of_none g1 hp)]
      exact g1
    · rcases List.mem_cons.mp m with rfl | m
      · exact ⟨by rw [upd_ne npo, upd_same], fp, npo⟩
      · obtain rfl := List.mem_singleton.mp m
        exact ⟨by rw [upd_ne nlo, upd_ne nlp, upd_same], fl, nlo⟩
  · rw [List.map_append, List.nodup_append]
    refine ⟨h.nd, by simp [nlp.symm], fun a ha b hb e => ?_⟩
    subst e
    obtain ⟨q, hq, rfl⟩ := List.mem_map.mp ha
    have hb2 : q.1 = p ∨ q.1 = l := by simpa using hb
    have g1 := (h.all q hq).1
    rcases hb2 with z | z
    · rw [z, hp] at g1
      cases g1
    · rw [z, hl'] at g1
      cases g1
def wf2 (l : Addr) : List (Str × V) := [("_limits", .ref l), ("_settled", .int 0)]
def wf3 (l p : Addr) : List (Str × V) := [("_limits", .ref l), ("_settled", .int 0), ("_heights", .ref p)]
def wf4 (l p q : Addr) : List (Str × V) := [("_limits", .ref l), ("_settled", .int 0), ("_heights", .ref p), ("_leaning", .ref q)]
/-- a new one: no limits, the one place 0 -/
def spInit (C : Addr) : Sp := fun vs H Q _ => ∃ (o dx : Addr) (H0 : Hp), vs = [.ref o] ∧ H = upd (upd H0 dx (.own o)) o (.ins C dx []) ∧ H0 o = none ∧ H0 dx = none ∧ dx ≠ o ∧
  ∀ w la H', Same H0 H' → (∀ b ∈ mutW o w [0] la, H0 b = none) → WyC C H' o w [0] (fun _ => 0) la [] 0 → Q .non H'
theorem ok_init (T : Txt K mg) : FnOk P w' K mg base CX0 1 T.f_Ways_init T.fd_Ways_init ["self"] (spInit T.C_Ways) := by
  refine T.F_Ways_init.ok sc_Ways_init (fun vs H Q E h => ?_) (fun cdv A outer s H vs Q E hr h => ?_)
  · obtain ⟨o, dx, H0, rfl, _⟩ := h
    rfl
  · obtain ⟨o, dx, H0, rfl, rfl, h0, hdx, hne, h⟩ := h
    refine ⟨_, (pss_cons (ps_fld (pv 0) (pe_lst pa_nil) rfl)
 (pss_cons (ps_fld (pv 0) pe_int rfl)
 (pss_cons (ps_fld (pv 0) (pe_disp (pps_cons pe_int pe_int pps_nil) (by rfl) (by rfl) (fun z => by cases z) (by decide)) rfl)
 (pss_one (ps_fld (pv 0) (pe_disp (pps_cons pe_int (pe_lst pa_nil) pps_nil) (by rfl) (by rfl) (fun z => by cases z) (by decide)) rfl))))), ?_⟩
    refine Z.w_start (σ' := [some (.ref o)]) rfl ?_
    have I0 : InitSt H0 (upd (upd H0 dx (.own o)) o (.ins T.C_Ways dx [])) o T.C_Ways dx [] [] := ⟨same_mut (same_of (Same.refl _) hdx) h0, upd_same, fun p hp => absurd hp (by simp), List.nodup_nil⟩
    refine w_seq (w_initL I0 h0 T.cl_Ways T.n_Ways__limits [] rfl (by decide +kernel) (show 0 < 1000 by decide) fun l1 H1 h1 => ?_)
    refine w_seq (w_initC h1 h0 T.cl_Ways T.n_Ways__settled ["_limits"] rfl (by decide +kernel) (show 1 < 1000 by decide) fun H2 h2 => ?_)
    dsimp only
    refine w_seq (w_fld ?_)
    intro p hp
    walk_at "w"
    refine ⟨upd_same, [(Sum.inl 0, .int 0)], rfl, by decide, ?_⟩
    rw [upd_upd]
    have npo : p ≠ o := fun e => by subst e; rw [h2.ob] at hp; cases hp
    refine Z.w_var (v := V.ref o) rfl ⟨o, T.C_Ways, dx, wf2 l1, rfl, upd_of hp h2.ob, T.cl_Ways, T.n_Ways__heights, (show 2 < 1000 by decide), ?_⟩
    have e3 : putF "_heights" (V.ref p) (wf2 l1) = wf3 l1 p := putF_new (by show _ ∉ [("_limits" : Str), "_settled"]; decide +kernel)
    rw [e3]
    have h3 := h2.step h0 hp (u := .dK (mergeK [] [(Sum.inl 0, .int 0)])) (fs' := wf3 l1 p)
    generalize upd (upd H2 p (.dK (mergeK [] [(Sum.inl 0, .int 0)]))) o (.ins T.C_Ways dx (wf3 l1 p)) = H3 at *
    dsimp only
    refine w_fld ?_
    intro p4 hp4
    walk_at "w"
    refine ⟨Nat.zero_le _, fun l4 hl4 => ?_⟩
    refine ⟨by rw [upd_ne (fun e => by subst e; rw [upd_same] at hl4; cases hl4), upd_same], [(Sum.inl 0, .ref l4)], rfl, (show 1 ≤ 15 by decide), ?_⟩
    refine Z.w_var (v := V.ref o) rfl ⟨o, T.C_Ways, dx, wf3 l1 p, rfl, ?_, T.cl_Ways, T.n_Ways__leaning, (show 3 < 1000 by decide), ?_⟩
    · have np4 : o ≠ p4 := fun e => by subst e; rw [h3.ob] at hp4; cases hp4
      rw [upd_ne np4]
      exact upd_of hl4 (upd_of hp4 h3.ob)
    have e4 : putF "_leaning" (V.ref p4) (wf3 l1 p) = wf4 l1 p p4 := putF_new (by show _ ∉ [("_limits" : Str), "_settled", "_heights"]; decide +kernel)
    rw [e4]
    have h4 := h3.step2 h0 hp4 hl4 (u1 := .lst []) (u2 := .dK (mergeK [] [(Sum.inl 0, .ref l4)])) (fs' := wf4 l1 p p4)
    generalize upd (upd (upd (upd H3 p4 (.dK [])) l4 (.lst [])) p4 (.dK (mergeK [] [(Sum.inl 0, .ref l4)]))) o (.ins T.C_Ways dx (wf4 l1 p p4)) = H4 at *
    obtain ⟨sm, ob, all, nd⟩ := h4
    simp only [List.cons_append, List.nil_append] at all
    simp only [List.cons_append, List.nil_append, List.map_cons, List.map_nil, List.nodup_cons, List.mem_cons, List.not_mem_nil, or_false, not_or, not_false_eq_true, List.nodup_nil, and_true] at nd
    obtain ⟨⟨d1, d2, d3⟩, ⟨d4, d5⟩, d6⟩ := nd
    have a1 := all (l1, .lst []) (by simp)
    have a2 := all (p, .dK (mergeK [] [(Sum.inl 0, .int 0)])) (by simp)
    have a3 := all (p4, .dK (mergeK [] [(Sum.inl 0, .ref l4)])) (by simp)
    have a4 := all (l4, .lst []) (by simp)
    refine h ⟨dx, l1, p, p4⟩ (fun _ => l4) H4 sm (fun b hb => ?_) ?_
    · simp only [mutW, List.map_cons, List.map_nil, List.mem_cons, List.not_mem_nil, or_false] at hb
      rcases hb with rfl | rfl | rfl | rfl | rfl
      · exact h0
      · exact a1.2.1
      · exact a2.2.1
      · exact a3.2.1
      · exact a4.2.1
    · refine ⟨ob, ⟨[], a1.1, .nil⟩, a2.1, a3.1, fun q hq => ?_, fun q hq q' hq' _ => ?_, fun q hq e => d3 e.symm, d4, by simp, by simp, Nat.le_refl _, fun i r hi _ => by omega, by decide, by decide⟩
      · exact a4.1
      · rw [List.mem_singleton.mp hq, List.mem_singleton.mp hq']
end
end L

namespace L
open PySem PySem.Spec PyProof.Rows L2 Z M WY HQ
section
variable {P : Program} {w' : World} {K : PySem.W.Frag} {mg : Str → Option Value} {base : Heap}
def PlIn (rs : List Lim) (ks : List Int) : Prop := ∀ r ∈ rs, lx r ∈ ks ∧ ly r ∈ ks
theorem hD_put_new {ks : List Int} {h : Int → Int} {p : Int} (hp : p ∉ ks) : putK (hD ks h) (Sum.inl p) (.int 0) = hD (ks ++ [p]) (fun q => if q = p then 0 else h q) := by
  rw [putK_new _ (by rw [hD_get, if_neg hp])]
  unfold hD
  rw [List.map_append]
  congr 1
  · refine List.map_congr_left fun q hq => ?_
    show _ = (_, _)
    simp only
    rw [if_neg (fun z : q = p => hp (by rw [← z]; exact hq))]
  · simp
theorem lD_put_new {ks : List Int} {la : Int → Addr} {p : Int} {l : Addr} (hp : p ∉ ks) : putK (lD ks la) (Sum.inl p) (.ref l) = lD (ks ++ [p]) (fun q => if q = p then l else la q) := by
  rw [putK_new _ (by rw [lD_get, if_neg hp])]
  unfold lD
  rw [List.map_append]
  congr 1
  · refine List.map_congr_left fun q hq => ?_
    show _ = (_, _)
    simp only
    rw [if_neg (fun z : q = p => hp (by rw [← z]; exact hq))]
  · simp
/-- what the places of a new limit leave -/
structure Grown (C : Addr) (H H' : Hp) (o : Addr) (w : WyO) (ks : List Int) (la : Int → Addr) (ks' : List Int) (h' : Int → Int) (la' : Int → Addr) (rs : List Lim) (s : Nat) : Prop where
  W : WyC C H' o w ks' h' la' rs s
  fr : FrW o w ks la H H'
  sub : ∀ p ∈ ks, p ∈ ks'
  la : ∀ p ∈ ks, la' p = la p
  fresh : ∀ p ∈ ks', p ∉ ks → H (la' p) = none
theorem Grown.refl {C : Addr} {H : Hp} {o : Addr} {w : WyO} {ks : List Int} {h : Int → Int} {la : Int → Addr} {rs : List Lim} {s : Nat} (W : WyC C H o w ks h la rs s) : Grown C H H o w ks la ks h la rs s := ⟨W, .refl H, fun _ h => h, fun _ _ => rfl, fun _ h n => absurd h n⟩
theorem Grown.trans {C : Addr} {H H1 H2 : Hp} {o : Addr} {w : WyO} {ks ks1 ks2 : List Int} {h h1 h2 : Int → Int} {la la1 la2 : Int → Addr} {rs : List Lim} {s : Nat} (W : WyC C H o w ks h la rs s) (a : Grown C H H1 o w ks la ks1 h1 la1 rs s) (b : Grown C H1 H2 o w ks1 la1 ks2 h2 la2 rs s) : Grown C H H2 o w ks la ks2 h2 la2 rs s := by
  have hfr : FrW o w ks la H H2 := fun c u n e => by
    refine b.fr c u (fun z => ?_) (a.fr c u n e)
    simp only [mutW, List.mem_cons, List.mem_map] at z n
    rcases z with z | z | z | z | ⟨p, hp, z⟩
    · exact n (.inl z)
    · exact n (.inr (.inl z))
    · exact n (.inr (.inr (.inl z)))
    · exact n (.inr (.inr (.inr (.inl z))))
    · by_cases hk : p ∈ ks
      · exact n (.inr (.inr (.inr (.inr ⟨p, hk, by rw [← a.la p hk]; exact z⟩))))
      · have := a.fresh p hp hk
        rw [z, e] at this
        cases this
  refine ⟨b.W, hfr, fun p hp => b.sub p (a.sub p hp), fun p hp => (b.la p (a.sub p hp)).trans (a.la p hp), fun p hp hn => ?_⟩
  by_cases hk : p ∈ ks1
  · rw [b.la p hk]
    exact a.fresh p hk hn
  · have h1 := b.fresh p hp hk
    cases e : H (la2 p) with
    | none => rfl
    | some u =>
      exfalso
      by_cases hm : la2 p ∈ mutW o w ks la
      · have hm1 : la2 p ∈ mutW o w ks1 la1 := by
          simp only [mutW, List.mem_cons, List.mem_map] at hm ⊢
          rcases hm with z | z | z | z | ⟨q, hq, z⟩
          · exact .inl z
          · exact .inr (.inl z)
          · exact .inr (.inr (.inl z))
          · exact .inr (.inr (.inr (.inl z)))
          · exact .inr (.inr (.inr (.inr ⟨q, a.sub q hq, by rw [a.la q hq]; exact z⟩)))
        obtain ⟨u1, hu1, _⟩ := a.W.has hm1
        rw [h1] at hu1
        cases hu1
      · have := a.fr _ _ hm e
        rw [h1] at this
        cases this
/-- a place that is there -/
theorem Grown.same {C : Addr} {H H' : Hp} {o : Addr} {w : WyO} {ks : List Int} {h : Int → Int} {la : Int → Addr} {rs : List Lim} {s : Nat} (W : WyC C H o w ks h la rs s) (sm : Same H H') : Grown C H H' o w ks la ks h la rs s :=
  ⟨W.same (fun b u _ => sm b u) (TupS.of sm), .of sm, fun _ h => h, fun _ _ => rfl, fun _ h n => absurd h n⟩
/-- a new place -/
theorem Grown.new {C : Addr} {H : Hp} {o l : Addr} {w : WyO} {ks : List Int} {h : Int → Int} {la : Int → Addr} {rs : List Lim} {s : Nat} (W : WyC C H o w ks h la rs s) {p : Int} (hp : p ∉ ks) (pl : PlIn rs ks) (hz : ks.length + 1 ≤ 5000) (hl : H l = none) :
    Grown C H (upd (upd (upd H w.hd (.dK (hD (ks ++ [p]) (fun q => if q = p then 0 else h q)))) l (.lst [])) w.le (.dK (lD (ks ++ [p]) (fun q => if q = p then l else la q)))) o w ks la (ks ++ [p]) (fun q => if q = p then 0 else h q) (fun q => if q = p then l else la q) rs s := by
  obtain ⟨ob, ⟨us, l1, l2⟩, hd, le, ln, inj, ll, dd, nd, k0, sl, fe, sz⟩ := W
  have n1 : l ≠ w.hd := (ne_of_none hd hl).symm
  have n2 : l ≠ w.le := (ne_of_none le hl).symm
  have n3 : l ≠ w.li := (ne_of_none l1 hl).symm
  have n4 : o ≠ w.hd := ne_ins ob hd (fun _ _ _ z => by cases z)
  have n5 : o ≠ w.le := ne_ins ob le (fun _ _ _ z => by cases z)
  have n6 : o ≠ l := ne_of_none ob hl
  have n7 : w.li ≠ w.hd := ne_ld l1 hd
  have n8 : w.li ≠ w.le := ne_ld l1 le
  have hnp : ∀ q ∈ ks, q ≠ p := fun q hq z => hp (by rw [← z]; exact hq)
  have fr : FrW o w ks la H (upd (upd (upd H w.hd (.dK (hD (ks ++ [p]) (fun q => if q = p then 0 else h q)))) l (.lst [])) w.le (.dK (lD (ks ++ [p]) (fun q => if q = p then l else la q)))) := fun b u n e => by
    rw [upd_ne (fun z => n (by rw [z]; exact m_le)), upd_ne (ne_of_none e hl), upd_ne (fun z => n (by rw [z]; exact m_hd))]
    exact e
  have tp : TupS H (upd (upd (upd H w.hd (.dK (hD (ks ++ [p]) (fun q => if q = p then 0 else h q)))) l (.lst [])) w.le (.dK (lD (ks ++ [p]) (fun q => if q = p then l else la q)))) := WyC.tupS ⟨ob, ⟨us, l1, l2⟩, hd, le, ln, inj, ll, dd, nd, k0, sl, fe, sz⟩ fr
  refine ⟨⟨?_, ⟨us, ?_, l2.tup tp⟩, ?_, upd_same, fun q hq => ?_, fun q hq q' hq' e => ?_, fun q hq => ?_, dd, ?_, ?_, sl, fun i r hi hr => ?_, sz.1, by rw [List.length_append]; exact hz⟩, fr, fun q hq => List.mem_append_left _ hq, fun q hq => ?_, fun q hq hn => ?_⟩
  · rw [upd_ne n5, upd_ne n6, upd_ne n4]
    exact ob
  · rw [upd_ne n8, upd_ne n3.symm, upd_ne n7]
    exact l1
  · rw [upd_ne dd, upd_ne n1.symm, upd_same]
  · rcases List.mem_append.mp hq with z | z
    · have hln := ln q z
      rw [if_neg (hnp q z), upd_ne (ne_ld hln le), upd_ne (ne_of_none hln hl), upd_ne (ne_ld hln hd)]
      exact hln
    · rw [List.mem_singleton.mp z, if_pos rfl, upd_ne n2, upd_same, leans_none sl (fun r hr e => hp (by rw [← e]; exact (pl r hr).2))]
      rfl
  · rcases List.mem_append.mp hq with z | z
    · rcases List.mem_append.mp hq' with z' | z'
      · rw [if_neg (hnp q z), if_neg (hnp q' z')] at e
        exact inj q z q' z' e
      · rw [List.mem_singleton.mp z', if_neg (hnp q z), if_pos rfl] at e
        have := ln q z
        rw [e, hl] at this
        cases this
    · rcases List.mem_append.mp hq' with z' | z'
      · rw [List.mem_singleton.mp z, if_neg (hnp q' z'), if_pos rfl] at e
        have := ln q' z'
        rw [← e, hl] at this
        cases this
      · rw [List.mem_singleton.mp z, List.mem_singleton.mp z']
  · rcases List.mem_append.mp hq with z | z
    · rw [if_neg (hnp q z)]
      exact ll q z
    · rw [List.mem_singleton.mp z, if_pos rfl]
      exact n3
  · rw [List.nodup_append]
    exact ⟨nd, by simp, fun a ha b hb z => hp (by rw [← List.mem_singleton.mp hb, ← z]; exact ha)⟩
  · exact List.mem_append_left _ k0
  · have hm := List.mem_of_getElem? hr
    obtain ⟨p1, p2⟩ := pl r hm
    rw [if_neg (hnp _ p1), if_neg (hnp _ p2)]
    exact fe i r hi hr
  · rw [if_neg (hnp q hq)]
  · rcases List.mem_append.mp hq with z | z
    · exact absurd z hn
    · rw [List.mem_singleton.mp z, if_pos rfl]
      exact hl
def spLimit (C : Addr) : Sp := fun vs H Q _ => ∃ (o : Addr) (w : WyO) (ks : List Int) (h : Int → Int) (la : Int → Addr) (rs : List Lim) (s : Nat) (r : Lim), vs = [.ref o, .int (lx r), .int (ly r), .int (lk r), .int (ll r)] ∧ WyC C H o w ks h la rs s ∧ PlIn rs ks ∧ rs.length + 1 ≤ 1000 ∧ ks.length + 2 ≤ 5000 ∧
  ∀ H' ks' h' la', Grown C H H' o w ks la ks' h' la' (rs ++ [r]) s → PlIn (rs ++ [r]) ks' → (∀ p ∈ ks', p ∈ ks ∨ p = lx r ∨ p = ly r) → ks'.length ≤ ks.length + 2 → Q .non H'
theorem ok_limit (T : Txt K mg) : FnOk P w' K mg base CX0 1 T.f_Ways_limit T.fd_Ways_limit ["self", "x", "y", "k", "label"] (spLimit T.C_Ways) := by
  refine T.F_Ways_limit.ok sc_Ways_limit (fun vs H Q E h => ?_) (fun cdv A outer s H vs Q E hr h => ?_)
  · obtain ⟨o, w, ks, hh, la, rs, s, r, rfl, _⟩ := h
    rfl
  · obtain ⟨o, w, ks, hh, la, rs, s, r, rfl, W, pl, z1, z2, h⟩ := h
    refine ⟨_, (pss_cons (ps_for PassesOwn.never rfl (pi_tup (pe_tup (pa_cons (pv 1) (pa_cons (pv 2) pa_nil)))) (pg_name (i := 5) sc_Ways_limit.nd rfl (.inl rfl)) (pss_cons (ps_expr (pe_dsetd (pe_fld (pv 0) rfl) (pv 5) pe_int ⟨rfl, rfl, rfl, rfl⟩))
 (pss_one (ps_expr (pe_dsetd (pe_fld (pv 0) rfl) (pv 5) (pe_lst pa_nil) ⟨rfl, rfl, rfl, rfl⟩)))))
 (pss_one (ps_expr (pe_bm PySem.F.plainAttrs_list PySem.F.slot_list_append PySem.F.type_list_append mt_append (pe_fld (pv 0) rfl) (pa_cons (pe_tup (pa_cons (pv 1) (pa_cons (pv 2) (pa_cons (pv 3) (pa_cons (pv 4) pa_nil))))) pa_nil))))), ?_⟩
    refine Z.w_start (σ' := [some (.ref o), some (.int (lx r)), some (.int (ly r)), some (.int (lk r)), some (.int (ll r)), none]) rfl ?_
    walk_at "w"
    rename_i t ht
    have s1 := same_of (Same.refl H) ht (o := .tup [.int (lx r), .int (ly r)])
    have W1 := Grown.same W s1
    have eT : (upd H t (.tup [.int (lx r), .int (ly r)])) t = some (.tup [.int (lx r), .int (ly r)]) := upd_same
    generalize upd H t (.tup [.int (lx r), .int (ly r)]) = H1 at *
    refine for_tup (K := K) (xs := [.int (lx r), .int (ly r)]) (fun i σ H' => ∃ x5 ks' h' la', σ = [some (.ref o), some (.int (lx r)), some (.int (ly r)), some (.int (lk r)), some (.int (ll r)), x5] ∧ Grown T.C_Ways H H' o w ks la ks' h' la' rs s ∧ TupS H1 H' ∧ (0 < i → lx r ∈ ks') ∧ (1 < i → ly r ∈ ks') ∧ (∀ p ∈ ks', p ∈ ks ∨ p = lx r ∨ p = ly r) ∧ ks'.length ≤ ks.length + i) ?_ ?_ ?_ ?_
    · exact ⟨none, ks, hh, la, rfl, W1, fun _ _ e => e, fun z => absurd z (by decide), fun z => absurd z (by decide), fun p hp => .inl hp, Nat.le_refl _⟩
    · rintro i σ H' hi ⟨x5, ks', h', la', rfl, G, tp, _⟩
      exact .inl (.inl (tp _ _ eT))
    · rintro i v σ H' hv ⟨x5, ks', h', la', rfl, G, tp, c1, c2, c3, c4⟩
      have hi2 : i < 2 := (List.getElem?_eq_some_iff.mp hv).1
      obtain ⟨p, rfl, hp3, hp1, hp2⟩ : ∃ p, v = .int p ∧ (p = lx r ∨ p = ly r) ∧ (i = 0 → p = lx r) ∧ (i = 1 → p = ly r) := by
        match i, hv with
        | 0, hv => exact ⟨lx r, (Option.some.inj hv).symm, .inl rfl, fun _ => rfl, fun z => absurd z (by decide)⟩
        | 1, hv => exact ⟨ly r, (Option.some.inj hv).symm, .inr rfl, fun z => absurd z (by decide), fun _ => rfl⟩
        | i + 2, hv => omega
      have pl' : PlIn rs ks' := fun q hq => ⟨G.sub _ (pl q hq).1, G.sub _ (pl q hq).2⟩
      have step : ∀ H2 ks2 h2 la2, Grown T.C_Ways H' H2 o w ks' la' ks2 h2 la2 rs s → p ∈ ks2 → (∀ q ∈ ks2, q ∈ ks' ∨ q = p) → ks2.length ≤ ks'.length + 1 → ∃ x5 ks' h' la', ([some (.ref o), some (.int (lx r)), some (.int (ly r)), some (.int (lk r)), some (.int (ll r)), some (.int p)] : L2.St) = [some (.ref o), some (.int (lx r)), some (.int (ly r)), some (.int (lk r)), some (.int (ll r)), x5] ∧ Grown T.C_Ways H H2 o w ks la ks' h' la' rs s ∧ TupS H1 H2 ∧ (0 < i + 1 → lx r ∈ ks') ∧ (1 < i + 1 → ly r ∈ ks') ∧ (∀ p ∈ ks', p ∈ ks ∨ p = lx r ∨ p = ly r) ∧ ks'.length ≤ ks.length + (i + 1) := fun H2 ks2 h2 la2 G2 hp hq hlen => by
        refine ⟨_, ks2, h2, la2, rfl, G.trans W G2, tp.trans (G.W.tupS G2.fr), fun _ => ?_, fun _ => ?_, fun q hq2 => ?_, by omega⟩
        · by_cases z : i = 0
          · rw [← hp1 z]
            exact hp
          · exact G2.sub _ (c1 (by omega))
        · by_cases z : i = 1
          · rw [← hp2 z]
            exact hp
          · exact G2.sub _ (c2 (by omega))
        · rcases hq q hq2 with z | z
          · exact c3 q z
          · rw [z]
            exact .inr hp3
      walk_at "w"
      refine w_dsetd ?_
      refine w_fldT T.cl_Ways T.n_Ways__heights G.W.ob rfl ?_
      refine ⟨w.hd, rfl, .inl ⟨_, .inl G.W.hd⟩, ?_⟩
      walk_at "w"
      have hsz : (hD ks' h').length < sizeLine := by
        unfold hD
        rw [List.length_map]
        exact Nat.lt_of_le_of_lt G.W.sz.2 (by decide)
      have lsz : (lD ks' la').length < sizeLine := by
        unfold lD
        rw [List.length_map]
        exact Nat.lt_of_le_of_lt G.W.sz.2 (by decide)
      refine ⟨_, Sum.inl p, G.W.hd, rfl, hsz, fun v hv => ?_, fun hv => ?_⟩
      · have hp : p ∈ ks' := by
          refine Classical.byContradiction fun z => ?_
          rw [hD_get, if_neg z] at hv
          cases hv
        walk_at "w"
        refine w_dsetd ?_
        refine w_fldT T.cl_Ways T.n_Ways__leaning G.W.ob rfl ?_
        refine ⟨w.le, rfl, .inl ⟨_, .inl G.W.le⟩, ?_⟩
        walk_at "w"
        rename_i l hl
        have s2 := same_of (Same.refl H') hl (o := .lst [])
        refine ⟨_, Sum.inl p, s2 _ _ G.W.le, rfl, lsz, fun v2 hv2 => ?_, fun hv2 => ?_⟩
        · exact step _ _ _ _ (Grown.same G.W s2) hp (fun q hq => .inl hq) (Nat.le_succ _)
        · rw [lD_get, if_pos hp] at hv2
          cases hv2
      · have hp : p ∉ ks' := fun z => by
          rw [hD_get, if_pos z] at hv
          cases hv
        rw [hD_put_new hp]
        have n4 : o ≠ w.hd := ne_ins G.W.ob G.W.hd (fun _ _ _ z => by cases z)
        walk_at "w"
        refine w_dsetd ?_
        refine w_fldT T.cl_Ways T.n_Ways__leaning (fs := w.fs s) (dx := w.dx) (by rw [upd_ne n4]; exact G.W.ob) rfl ?_
        refine ⟨w.le, rfl, .inl ⟨_, .inl (by rw [upd_ne G.W.dd.symm]; exact G.W.le)⟩, ?_⟩
        walk_at "w"
        rename_i l hl
        have nlh : l ≠ w.hd := fun e => by subst e; rw [upd_same] at hl; cases hl
        have hl' : H' l = none := by rw [upd_ne nlh] at hl; exact hl
        refine ⟨_, Sum.inl p, by rw [upd_ne (ne_of_none G.W.le hl'), upd_ne G.W.dd.symm]; exact G.W.le, rfl, lsz, fun v2 hv2 => ?_, fun hv2 => ?_⟩
        · rw [lD_get, if_neg hp] at hv2
          cases hv2
        · rw [lD_put_new hp]
          exact step _ _ _ _ (Grown.new G.W hp pl' (by omega) hl') (List.mem_append_right _ (List.mem_singleton.mpr rfl)) (fun q hq => (List.mem_append.mp hq).imp id List.mem_singleton.mp) (by rw [List.length_append]; exact Nat.le_refl _)
    · rintro σ H' ⟨x5, ks', h', la', rfl, G, tp, c1, c2, c3, c4⟩
      obtain ⟨us, l1, l2⟩ := G.W.li
      walk_at "w"
      refine Z.w_bm ?_
      refine w_fldT T.cl_Ways T.n_Ways__limits G.W.ob rfl ?_
      refine ⟨.inl ⟨rfl, _, .inl (.inl l1)⟩, ?_⟩
      walk_at "w"
      rename_i t2 ht2
      have s2 := same_of (Same.refl H') ht2 (o := .tup [.int (lx r), .int (ly r), .int (lk r), .int (ll r)])
      have l12 := s2 _ _ l1
      refine ⟨w.li, us, _, rfl, rfl, l12, ?_, ?_⟩
      · rw [l2.1]
        exact Nat.lt_of_le_of_lt (Nat.le_trans (Nat.le_succ _) z1) (by decide)
      have nt : t2 ≠ w.li := fun e => by subst e; rw [l1] at ht2; cases ht2
      have eT2 : (upd (upd H' t2 (.tup [.int (lx r), .int (ly r), .int (lk r), .int (ll r)])) w.li (.lst (us ++ [.ref t2]))) t2 = some (.tup (limT r)) := by rw [upd_ne nt, upd_same]; rfl
      have eL2 : (upd (upd H' t2 (.tup [.int (lx r), .int (ly r), .int (lk r), .int (ll r)])) w.li (.lst (us ++ [.ref t2]))) w.li = some (.lst (us ++ [.ref t2])) := upd_same
      have sk : ∀ b u, b ≠ w.li → H' b = some u → (upd (upd H' t2 (.tup [.int (lx r), .int (ly r), .int (lk r), .int (ll r)])) w.li (.lst (us ++ [.ref t2]))) b = some u := fun b u n e => by
        rw [upd_ne n]
        exact s2 _ _ e
      generalize upd (upd H' t2 (.tup [.int (lx r), .int (ly r), .int (lk r), .int (ll r)])) w.li (.lst (us ++ [.ref t2])) = H2 at *
      obtain ⟨ob, _, hd, le, ln, inj, lll, dd, nd, k0, sl, fe, sz⟩ := G.W
      have n1 : o ≠ w.li := ne_ins ob l1 (fun _ _ _ z => by cases z)
      have n2 : w.hd ≠ w.li := (ne_ld l1 hd).symm
      have n3 : w.le ≠ w.li := (ne_ld l1 le).symm
      have tp2 : TupS H' H2 := fun b xs e => sk b _ (fun z => by rw [z, l1] at e; cases e) e
      have W2 : WyC T.C_Ways H2 o w ks' h' la' (rs ++ [r]) s := by
        refine ⟨sk _ _ n1 ob, ⟨_, eL2, (l2.tup tp2).snoc eT2⟩, sk _ _ n2 hd, sk _ _ n3 le, fun p hp => ?_, inj, lll, dd, nd, k0, by rw [List.length_append]; omega, fun i q hi hq => ?_, by rw [List.length_append]; exact z1, sz.2⟩
        · rw [leans_snoc r sl]
          exact sk _ _ (lll p hp) (ln p hp)
        · rw [List.getElem?_append_left (by omega)] at hq
          exact fe i q hi hq
      refine h H2 ks' h' la' ⟨W2, G.fr.trans fun b u n e => sk b u (fun z => n (by rw [z]; exact m_li)) e, G.sub, G.la, G.fresh⟩ (fun q hq => ?_) c3 c4
      rcases List.mem_append.mp hq with z | z
      · exact ⟨G.sub _ (pl q z).1, G.sub _ (pl q z).2⟩
      · rw [List.mem_singleton.mp z]
        exact ⟨c1 (by simp), c2 (by simp)⟩
end
end L

namespace L
open PySem PySem.Spec PyProof.Rows L2 Z M WY HQ
section
variable {P : Program} {w' : World} {K : PySem.W.Frag} {mg : Str → Option Value} {base : Heap}
theorem hD_keys (ks : List Int) (h : Int → Int) : (hD ks h).map (·.1) = ks.map Sum.inl := by
  unfold hD
  rw [List.map_map]
  rfl
theorem hD_getG {ks : List Int} {h : Int → Int} {p : Int} (hp : p ∈ ks) : valV (hD ks h) (Sum.inl p) = some (.int (h p)) := by rw [hD_get, if_pos hp]
theorem dget_hD {H : Hp} {a : Addr} {ks : List Int} {h : Int → Int} {p : Int} (ha : H a = some (.dK (hD ks h))) (hp : p ∈ ks) : DGet H a (.int p) (some (.int (h p))) := by
  have := DGet.k (k := Sum.inl p) ha
  rw [hD_getG hp] at this
  exact this
theorem dget_lD {H : Hp} {a : Addr} {ks : List Int} {la : Int → Addr} {p : Int} (ha : H a = some (.dK (lD ks la))) (hp : p ∈ ks) : DGet H a (.int p) (some (.ref (la p))) := by
  have := DGet.k (k := Sum.inl p) ha
  rw [lD_get, if_pos hp] at this
  exact this
def spHeights (C : Addr) : Sp := fun vs H Q _ => ∃ (o : Addr) (w : WyO) (ks : List Int) (h : Int → Int) (la : Int → Addr) (rs : List Lim) (s : Nat), vs = [.ref o] ∧ WyC C H o w ks h la rs s ∧ ks.length < 64 ∧
  ∀ p H' ps, Same H H' → H p = none → H' p = some (.dK (hD ps (fun q => h q - h 0))) → ps.Perm ks → ps.Pairwise (· ≤ ·) → Q (.ref p) H'
theorem ok_hts (T : Txt K mg) : FnOk P w' K mg base CX0 1 T.f_Ways_heights T.fd_Ways_heights ["self"] (spHeights T.C_Ways) := by
  refine T.F_Ways_heights.ok sc_Ways_heights (fun vs H Q E h => ?_) (fun cdv A outer s H vs Q E hr h => ?_)
  · obtain ⟨o, w, ks, hh, la, rs, s, rfl, _⟩ := h
    rfl
  · obtain ⟨o, w, ks, hh, la, rs, s, rfl, W, hz, h⟩ := h
    refine ⟨_, (pss_cons (ps_set (i := 1) sc_Ways_heights.nd rfl (.inr rfl) (pe_dget (hu_of hr) (pe_fld (pv 0) rfl) pe_int (fun _ _ => rfl)))
 (pss_one (ps_ret (pe_dc (own := [("place", 2)]) (g := gName 2) (tt := tYes) (by rfl) sc_Ways_heights.nd (pi_list (pe_callB (call_sortedDI rfl) (by rfl) T.m_sorted (by decide +kernel) (pa_cons (pe_fld (pv 0) rfl) pa_nil))) (blkOk_by (own := [("place", 2)]) (N := N_Ways_heights) (sc := defScope s_Ways_heights) (by decide +kernel)) (fun _ _ _ _ _ => pg_name (i := 2) sc_Ways_heights.nd rfl (Or.inl rfl)) (fun _ _ _ _ _ => pts_nil) (fun _ _ _ _ _ => (pv 2)) (fun _ _ _ _ _ => (pe_op op_sub (pe_dget (hu_of hr) (show PE _ _ (tFld K _ _) from pe_fld (pv 0) rfl) (pv 2) (fun _ _ => rfl)) (pv 1))))))), ?_⟩
    refine Z.w_start (σ' := [some (.ref o), none, none]) rfl ?_
    walk_at "w"
    refine w_fldT T.cl_Ways T.n_Ways__heights W.ob rfl ?_
    walk_at "w"
    refine ⟨w.hd, _, rfl, dget_hD W.hd W.k0, ?_⟩
    walk_at "w"
    refine w_dc ?_
    walk_at "w"
    refine w_fldT T.cl_Ways T.n_Ways__heights W.ob rfl ?_
    refine ⟨w.hd, _, ks, rfl, .inl W.hd, hD_keys _ _, hz, fun ps p hperm hpw fp => ?_⟩
    have s1 := same_of (Same.refl H) fp (o := .lst (ps.map V.int))
    have ep : (upd H p (.lst (ps.map V.int))) p = some (.lst (ps.map V.int)) := upd_same
    generalize upd H p (.lst (ps.map V.int)) = H1 at *
    refine ⟨p, rfl, ⟨_, .inl (.inl ep)⟩, fun D hD1 => ?_⟩
    have hmem : ∀ q ∈ ps, q ∈ ks := fun q hq => hperm.mem_iff.mp hq
    have hnd : ps.Nodup := hperm.nodup_iff.mpr W.nd
    refine dc_it (walk_list (K := K) (a := p) (xs := ps.map V.int)) (fun i H' => Same H1 H' ∧ i ≤ ps.length ∧ H' D = some (.dK (hD (ps.take i) (fun q => hh q - hh 0)))) ?_ ?_ ?_ ?_
    · exact ⟨same_of (Same.refl _) hD1, Nat.zero_le _, upd_same⟩
    · rintro i H' hi ⟨s2, _⟩
      exact .inl (.inl (s2 _ _ ep))
    · rintro i x H2 H' hi ⟨s2, _, e2⟩ ⟨rfl, hx⟩
      rw [List.length_map] at hi
      rw [List.getElem?_map, List.getElem?_eq_getElem hi] at hx
      obtain rfl := Option.some.inj hx
      have hm := hmem _ (List.getElem_mem hi)
      have s12 := s1.trans s2
      refine Z.w_gname (σ' := [some (.ref o), some (.int (hh 0)), some (.int ps[i])]) rfl ⟨rfl, ?_⟩
      walk_at "w"
      refine w_fldT T.cl_Ways T.n_Ways__heights (s12 _ _ W.ob) rfl ?_
      walk_at "w"
      refine ⟨w.hd, _, rfl, dget_hD (s12 _ _ W.hd) hm, ?_⟩
      walk_at "w"
      refine ⟨_, Sum.inl ps[i], rfl, e2, ?_, same_mut s2 hD1, hi, ?_⟩
      · unfold hD
        rw [List.length_map, List.length_take]
        exact Nat.lt_of_le_of_lt (Nat.min_le_left _ _) (Nat.lt_trans (show i < 100 by have := hperm.length_eq; omega) (by decide))
      · rw [upd_same]
        congr 1
        have hni : ps[i] ∉ ps.take i := fun z => by
          obtain ⟨j, hj⟩ := List.mem_iff_getElem?.mp z
          rw [List.getElem?_take] at hj
          split at hj
          · rename_i hji
            have := (List.getElem?_inj (by omega) hnd).mp (hj.trans (List.getElem?_eq_getElem hi).symm)
            omega
          · cases hj
        rw [putK_new _ (by rw [hD_get, if_neg hni]), List.take_add_one, List.getElem?_eq_getElem hi]
        unfold hD
        rw [List.map_append]
        rfl
    · rintro H' ⟨s2, _, e2⟩
      rw [List.length_map, List.take_length] at e2
      exact h D H' ps (s1.trans s2) (fresh_of1 s1 hD1) e2 hperm hpw
/-- the pulls as entries -/
def spPulls (C : Addr) : Sp := fun vs H Q _ => ∃ (o f : Addr) (w : WyO) (ks : List Int) (h : Int → Int) (la : Int → Addr) (rs : List Lim) (s : Nat) (ord : List Fal) (x : Fal), vs = [.ref o, .int x.1, .ref f] ∧ WyC C H o w ks h la rs s ∧ PlIn rs ks ∧ H f = some (.dK (ord.map fun o => (Sum.inl o.1, V.int o.2.1))) ∧ x ∈ ord ∧ (ord.map (·.1)).Nodup ∧ x.1 ∈ ks ∧
  ∀ p H' us ps, Same H H' → H p = none → H' p = some (.lst us) → us.length = ps.length → (∀ (i : Nat) (e : Ent), ps[i]? = some e → ∃ t, us[i]? = some (V.ref t) ∧ H' t = some (.tup [.int e.1, .int e.2.1, .int e.2.2])) → PullsOf rs s h ord x ps → ps.length ≤ 1000 → Q (.ref p) H'
theorem ord_get {ord : List Fal} (nd : (ord.map (·.1)).Nodup) (p : Int) : valV (ord.map fun o => ((Sum.inl o.1 : Key), V.int o.2.1)) (Sum.inl p) = (ord.find? fun o => o.1 == p).map fun o => V.int o.2.1 := by
  clear nd
  induction ord with
  | nil => rfl
  | cons o ord ih =>
    rw [List.map_cons, List.find?_cons]
    by_cases e : o.1 = p
    · rw [valV_pos (p := ((Sum.inl o.1 : Key), V.int o.2.1)) (by rw [e]), show (o.1 == p) = true from beq_iff_eq.mpr e]
      rfl
    · rw [valV_neg (p := ((Sum.inl o.1 : Key), V.int o.2.1)) (fun z => e (Sum.inl.inj z)), show (o.1 == p) = false from beq_eq_false_iff_ne.mpr e, ih]
theorem ord_find {ord : List Fal} (nd : (ord.map (·.1)).Nodup) {o : Fal} (ho : o ∈ ord) : ord.find? (fun x => x.1 == o.1) = some o := by
  induction ord with
  | nil => cases ho
  | cons x xs ih =>
    rw [List.map_cons, List.nodup_cons] at nd
    rw [List.find?_cons]
    rcases List.mem_cons.mp ho with rfl | hm
    · simp
    · have hne : ¬ x.1 = o.1 := fun z => nd.1 (List.mem_map.mpr ⟨o, hm, z.symm⟩)
      rw [show (x.1 == o.1) = false from beq_eq_false_iff_ne.mpr hne]
      exact ih nd.2 hm
theorem ord_none {ord : List Fal} {p : Int} (h : ∀ o ∈ ord, o.1 ≠ p) : ord.find? (fun x => x.1 == p) = none := List.find?_eq_none.mpr fun o ho => by simpa using h o ho
theorem ok_pulls (T : Txt K mg) : FnOk P w' K mg base CX0 1 T.f_Ways_pulls T.fd_Ways_pulls ["self", "place", "fallen"] (spPulls T.C_Ways) := by
  refine T.F_Ways_pulls.ok sc_Ways_pulls (fun vs H Q E h => ?_) (fun cdv A outer s H vs Q E hr h => ?_)
  · obtain ⟨o, f, w, ks, hh, la, rs, s, ord, x, rfl, _⟩ := h
    rfl
  · obtain ⟨o, f, w, ks, hh, la, rs, s, ord, x, rfl, W, pl, hf, hx, nd, hxk, h⟩ := h
    obtain ⟨us, l1, l2⟩ := W.li
    have hln := W.ln _ hxk
    have hfx := ord_find nd hx
    refine ⟨_, (pss_cons (ps_set (i := 3) sc_Ways_pulls.nd rfl (.inl rfl) (pe_lst pa_nil))
 (pss_cons (ps_for PassesOwn.never rfl (pi_list (pe_dget (hu_of hr) (pe_fld (pv 0) rfl) (pv 1) (fun _ _ => rfl))) (pg_name (i := 4) sc_Ways_pulls.nd rfl (.inl rfl)) (pss_cons (ps_asg (pe_ix ix_list (pe_fld (pv 0) rfl) (pv 4) (fun _ _ => rfl)) (pg_tup (by rfl) (pgs_cons (pg_name (i := 6) sc_Ways_pulls.nd rfl (.inl rfl)) (pgs_cons (pg_name (i := 7) sc_Ways_pulls.nd rfl (.inl rfl)) (pgs_cons (pg_name (i := 8) sc_Ways_pulls.nd rfl (.inl rfl)) (pgs_cons (pg_name (i := 7) sc_Ways_pulls.nd rfl (.inl rfl)) pgs_nil))))))
 (pss_cons (ps_set (i := 5) sc_Ways_pulls.nd rfl (.inl rfl) (pe_op op_sub (pe_op op_add (pe_dget (hu_of hr) (pv 2) (pv 1) (fun _ _ => rfl)) (pv 8)) (pe_dget (hu_of hr) (pe_fld (pv 0) rfl) (pv 6) (fun _ _ => rfl))))
 (pss_one (ps_if (PW.pt (pw_and (pt_cmpR op_lt (pv 5) pe_int (nomark _)) (pw_and1 (pt_cmp (pc_dnotin (hu_of hr) (pv 6) (pv 2)))))) (pss_one (ps_expr (pe_bm PySem.F.plainAttrs_list PySem.F.slot_list_append PySem.F.type_list_append mt_append (pv 3) (pa_cons (pe_tup (pa_cons (pv 5) (pa_cons (pv 6) (pa_cons (pv 4) pa_nil)))) pa_nil)))) pss_nil)))))
 (pss_one (ps_ret (pv 3))))), ?_⟩
    refine Z.w_start (σ' := [some (.ref o), some (.int x.1), some (.ref f), none, none, none, none, none, none]) rfl ?_
    walk_at "w"
    rename_i p fp
    have s1 := same_of (Same.refl H) fp (o := .lst [])
    have ep : (upd H p (.lst [])) p = some (.lst []) := upd_same
    generalize upd H p (.lst []) = H1 at *
    refine w_fldT T.cl_Ways T.n_Ways__leaning (s1 _ _ W.ob) rfl ?_
    walk_at "w"
    refine ⟨w.le, .ref (la x.1), rfl, dget_lD (s1 _ _ W.le) hxk, ?_⟩
    have hdn : ∀ {H' : Hp}, Same H H' → DGet H' f (.int x.1) (some (.int x.2.1)) := fun {H'} sm => by
      have := DGet.k (k := Sum.inl x.1) (sm _ _ hf)
      rw [ord_get nd, hfx] at this
      exact this
    refine ⟨la x.1, rfl, ⟨_, .inl (.inl (s1 _ _ hln))⟩, ?_⟩
    refine for_list (K := K) (xs := iV (leans rs s x.1)) (fun j σ H' => ∃ (x4 x5 x6 x7 x8 : Option V) (us : List V) (ps : List Ent), σ = [some (.ref o), some (.int x.1), some (.ref f), some (.ref p), x4, x5, x6, x7, x8] ∧ Same H H' ∧ H' p = some (.lst us) ∧ us.length = ps.length ∧ (∀ (i : Nat) (e : Ent), ps[i]? = some e → ∃ t, us[i]? = some (V.ref t) ∧ H' t = some (.tup [.int e.1, .int e.2.1, .int e.2.2])) ∧ ps.length ≤ j ∧ j ≤ (leans rs s x.1).length ∧
      (∀ e ∈ ps, ∃ (i : Nat) (q : Lim), i < s ∧ rs[i]? = some q ∧ ly q = x.1 ∧ e = (x.2.1 + lk q - hh (lx q), lx q, (i : Int)) ∧ e.1 < 0 ∧ ∀ o' ∈ ord, o'.1 ≠ lx q) ∧
      (∀ (i : Nat) (q : Lim), i ∈ (leans rs s x.1).take j → rs[i]? = some q → x.2.1 + lk q - hh (lx q) < 0 → (∀ o' ∈ ord, o'.1 ≠ lx q) → (x.2.1 + lk q - hh (lx q), lx q, (i : Int)) ∈ ps)) ?_ ?_ ?_ ?_
    · exact ⟨none, none, none, none, none, [], [], rfl, s1, ep, rfl, (fun i e he => absurd he (by simp)), Nat.le_refl _, Nat.zero_le _, (fun e he => absurd he (by simp)), (fun i q hi => absurd hi (by simp))⟩
    · rintro j σ H' hj ⟨x4, x5, x6, x7, x8, us', ps, rfl, sm, _⟩
      exact .inl (.inl (sm _ _ hln))
    · rintro j v σ H' hv ⟨x4, x5, x6, x7, x8, us', ps, rfl, sm, ep', hl1, hl3, hl2, hjl, hp1, hp2⟩
      have hjl2 : j < (leans rs s x.1).length := by
        have := (List.getElem?_eq_some_iff.mp hv).1
        unfold iV at this
        rw [List.length_map] at this
        exact this
      unfold iV at hv
      rw [List.getElem?_map, List.getElem?_eq_getElem hjl2] at hv
      obtain rfl := Option.some.inj hv
      have hlm : (leans rs s x.1)[j] ∈ leans rs s x.1 := List.getElem_mem hjl2
      generalize hn : (leans rs s x.1)[j] = n at *
      obtain ⟨hns, hgy⟩ := leans_mem.mp hlm
      have hnr : n < rs.length := Nat.lt_of_lt_of_le hns W.sl
      have hq : rs[n]? = some rs[n] := List.getElem?_eq_getElem hnr
      generalize rs[n] = q at *
      have hqy : ly q = x.1 := by rw [← gy_at hq]; exact hgy
      obtain ⟨t, g1, g2⟩ := l2.2 n q hq
      have hqx := (pl q (List.mem_of_getElem? hq)).1
      have hat : atI us (n : Int) = some (.ref t) := atI_nat g1
      have hsl : SqL K H' w.li us := .inl (.inl (sm _ _ l1))
      have g2' := sm _ _ g2
      unfold limT at g2'
      have htk : (leans rs s x.1).take (j + 1) = (leans rs s x.1).take j ++ [n] := by
        rw [List.take_add_one, List.getElem?_eq_getElem hjl2, hn]
        rfl
      walk_at "w"
      refine w_fldT T.cl_Ways T.n_Ways__limits (sm _ _ W.ob) rfl ?_
      walk_at "w"
      refine ⟨f, _, rfl, hdn sm, ?_⟩
      walk_at "w"
      refine w_fldT T.cl_Ways T.n_Ways__heights (sm _ _ W.ob) rfl ?_
      walk_at "w"
      refine ⟨w.hd, _, rfl, dget_hD (sm _ _ W.hd) hqx, ?_⟩
      walk_at "w"
      have next : ¬ (x.2.1 + lk q - hh (lx q) < 0 ∧ ∀ o' ∈ ord, o'.1 ≠ lx q) → (∀ (i : Nat) (q' : Lim), i ∈ (leans rs s x.1).take (j + 1) → rs[i]? = some q' → x.2.1 + lk q' - hh (lx q') < 0 → (∀ o' ∈ ord, o'.1 ≠ lx q') → (x.2.1 + lk q' - hh (lx q'), lx q', (i : Int)) ∈ ps) := fun hno i q' hi hq' h1 h2 => by
        rw [htk] at hi
        rcases List.mem_append.mp hi with z | z
        · exact hp2 i q' z hq' h1 h2
        · rw [List.mem_singleton.mp z, hq] at hq'
          obtain rfl := Option.some.inj hq'
          exact absurd ⟨h1, h2⟩ hno
      by_cases hneg : x.2.1 + lk q - hh (lx q) < 0
      · refine Z.w_iteT hneg ?_
        walk_at "w"
        refine ⟨f, _, rfl, DGet.k (k := Sum.inl (lx q)) (sm _ _ hf), ?_⟩
        rw [ord_get nd]
        by_cases hin : ∀ o' ∈ ord, o'.1 ≠ lx q
        · rw [ord_none hin]
          simp only [Option.map_none, Option.isSome_none]
          walk_at "w"
          refine Z.w_bm ?_
          walk_at "w"
          refine ⟨.inl ⟨rfl, _, .inl (.inl ep')⟩, ?_⟩
          walk_at "w"
          rename_i t2 ht2
          have s2 := same_of (Same.refl H') ht2 (o := .tup [.int (x.2.1 + lk q - hh (lx q)), .int (lx q), .int (n : Int)])
          refine ⟨p, _, _, rfl, rfl, s2 _ _ ep', ?_, ?_⟩
          · rw [hl1]
            have := W.sz.1
            have : (leans rs s x.1).length ≤ s := by
              unfold leans
              exact Nat.le_trans (List.length_filter_le _ _) (by rw [List.length_range]; exact Nat.le_refl _)
            have := W.sl
            exact Nat.lt_of_le_of_lt (show ps.length ≤ 1000 by omega) (by decide)
          · have nt : t2 ≠ p := fun e => by subst e; rw [ep'] at ht2; cases ht2
            refine ⟨_, _, _, _, _, us' ++ [.ref t2], ps ++ [(x.2.1 + lk q - hh (lx q), lx q, (n : Int))], rfl, same_mut (sm.trans s2) fp, upd_same, by rw [List.length_append, List.length_append, hl1]; rfl, fun i e he => ?_, by rw [List.length_append]; exact Nat.succ_le_succ hl2, hjl2, fun e he => ?_, fun i q' hi hq' h1 h2 => ?_⟩
            · by_cases hi : i < ps.length
              · rw [List.getElem?_append_left hi] at he
                obtain ⟨t3, k1, k2⟩ := hl3 i e he
                have nt3 : t3 ≠ p := fun z => by subst z; rw [ep'] at k2; cases k2
                exact ⟨t3, by rw [List.getElem?_append_left (by rw [hl1]; exact hi)]; exact k1, by rw [upd_ne nt3]; exact s2 _ _ k2⟩
              · have h5 := (List.getElem?_eq_some_iff.mp he).1
                rw [List.length_append, List.length_singleton] at h5
                obtain rfl : i = ps.length := by omega
                rw [List.getElem?_append_right (Nat.le_refl _), Nat.sub_self] at he
                obtain rfl := Option.some.inj he
                exact ⟨t2, by rw [List.getElem?_append_right (by rw [hl1]; exact Nat.le_refl _), hl1, Nat.sub_self]; rfl, by rw [upd_ne nt, upd_same]⟩
            · rcases List.mem_append.mp he with z | z
              · exact hp1 e z
              · rw [List.mem_singleton.mp z]
                exact ⟨n, q, hns, hq, hqy, rfl, hneg, hin⟩
            · rw [htk] at hi
              rcases List.mem_append.mp hi with z | z
              · exact List.mem_append_left _ (hp2 i q' z hq' h1 h2)
              · rw [List.mem_singleton.mp z] at hq' ⊢
                rw [hq] at hq'
                obtain rfl := Option.some.inj hq'
                exact List.mem_append_right _ (List.mem_singleton.mpr rfl)
        · have : ∃ o' ∈ ord, o'.1 = lx q := Classical.byContradiction fun hn2 => hin fun o' ho' z => hn2 ⟨o', ho', z⟩
          obtain ⟨o', ho', hox⟩ := this
          rw [← hox, ord_find nd ho', hox]
          simp only [Option.map_some, Option.isSome_some]
          walk_at "w"
          exact ⟨_, _, _, _, _, us', ps, rfl, sm, ep', hl1, hl3, Nat.le_succ_of_le hl2, hjl2, hp1, next fun z => hin z.2⟩
      · refine Z.w_iteF hneg ?_
        walk_at "w"
        exact ⟨_, _, _, _, _, us', ps, rfl, sm, ep', hl1, hl3, Nat.le_succ_of_le hl2, hjl2, hp1, next fun z => hneg z.1⟩
    · rintro σ H' ⟨x4, x5, x6, x7, x8, us', ps, rfl, sm, ep', hl1, hl2, hl3, hjl, hp1, hp2⟩
      have hil : (iV (leans rs s x.1)).length = (leans rs s x.1).length := List.length_map _
      rw [hil, List.take_length] at hp2
      walk_at "w"
      refine h p H' us' ps sm fp ep' hl1 hl2 ⟨hp1, fun i q hi hq hy h1 h2 => hp2 i q (leans_mem.mpr ⟨hi, by rw [gy_at hq]; exact hy⟩) hq h1 h2⟩ ?_
      have : (leans rs s x.1).length ≤ s := by
        unfold leans
        exact Nat.le_trans (List.length_filter_le _ _) (by rw [List.length_range]; exact Nat.le_refl _)
      have := W.sl
      have := W.sz.1
      omega
end
end L

namespace L
open PySem PySem.Spec PyProof.Rows L2 Z M WY HQ
section
variable {P : Program} {w' : World} {K : PySem.W.Frag} {mg : Str → Option Value} {base : Heap}
def gl (rs : List Lim) (i : Nat) : Int := ((rs[i]?).map ll).getD 0
theorem gl_at {rs : List Lim} {i : Nat} {q : Lim} (h : rs[i]? = some q) : gl rs i = ll q := by unfold gl; rw [h]; rfl
def lab (rs : List Lim) (ns : List Nat) : List V := ns.map fun i => V.int (gl rs i)
theorem ring_len {rs : List Lim} {n : Nat} {r : Lim} {h : Int → Int} {ord : List Fal} {acc : List Nat} {cause t : Nat} (I : RingI rs n r h ord acc cause t) : acc.length + 1 ≤ rs.length := by
  have h1 : (acc ++ [cause]).Nodup := List.Pairwise.of_map (gx rs) (fun a b h z => h (congrArg _ z)) I.nd
  have h2 : acc ++ [cause] ⊆ List.range rs.length := fun i hi => List.mem_range.mpr (I.lt i hi)
  have := List.Nodup.length_le_of_subset h1 h2
  rw [List.length_range, List.length_append, List.length_singleton] at this
  exact this
def spRing (C : Addr) : Sp := fun vs H Q _ => ∃ (o c : Addr) (w : WyO) (ks : List Int) (h : Int → Int) (la : Int → Addr) (rs : List Lim) (s i t : Nat) (r : Lim) (ord : List Fal), vs = [.ref o, .int (s : Int), .int (i : Int), .ref c] ∧ WyC C H o w ks h la rs s ∧ H c = some (.dK (ord.map fun o => (Sum.inl o.1, V.int (o.2.2 : Int)))) ∧ rs[s]? = some r ∧ FallA rs s r h ord ∧ RingI rs s r h ord [s] i t ∧
  ∀ p H' ns, Same H H' → H p = none → H' p = some (.lst (lab rs ns)) → Ring rs ns → Q (.ref p) H'
theorem caus_get {ord : List Fal} (p : Int) : valV (ord.map fun o => ((Sum.inl o.1 : Key), V.int (o.2.2 : Int))) (Sum.inl p) = (ord.find? fun o => o.1 == p).map fun o => V.int (o.2.2 : Int) := by
  induction ord with
  | nil => rfl
  | cons o ord ih =>
    rw [List.map_cons, List.find?_cons]
    by_cases e : o.1 = p
    · rw [valV_pos (p := ((Sum.inl o.1 : Key), V.int (o.2.2 : Int))) (by rw [e]), show (o.1 == p) = true from beq_iff_eq.mpr e]
      rfl
    · rw [valV_neg (p := ((Sum.inl o.1 : Key), V.int (o.2.2 : Int))) (fun z => e (Sum.inl.inj z)), show (o.1 == p) = false from beq_eq_false_iff_ne.mpr e, ih]
theorem ok_Wring (T : Txt K mg) : FnOk P w' K mg base CX0 1 T.f_Ways_ring T.fd_Ways_ring ["self", "number", "last", "causes"] (spRing T.C_Ways) := by
  refine T.F_Ways_ring.ok sc_Ways_ring (fun vs H Q E h => ?_) (fun cdv A outer s H vs Q E hr h => ?_)
  · obtain ⟨o, c, w, ks, hh, la, rs, s, i, t, r, ord, rfl, _⟩ := h
    rfl
  · obtain ⟨o, c, w, ks, hh, la, rs, s, i, t, r, ord, rfl, W, hc, hrs, F, R, h⟩ := h
    obtain ⟨us, l1, l2⟩ := W.li
    obtain ⟨t0, g1, g2⟩ := l2.2 s r hrs
    have hsl : SqL K H w.li us := .inl (.inl l1)
    have hat : atI us (s : Int) = some (.ref t0) := atI_nat g1
    unfold limT at g2
    refine ⟨_, (pss_cons (ps_set (i := 4) sc_Ways_ring.nd rfl (.inl rfl) (pe_lst (pa_cons (pe_ix ix_tup (pe_ix ix_list (pe_fld (pv 0) rfl) (pv 1) (fun _ _ => rfl)) pe_int (fun _ _ => rfl)) pa_nil)))
 (pss_cons (ps_set (i := 5) sc_Ways_ring.nd rfl (.inl rfl) (pe_ix ix_tup (pe_ix ix_list (pe_fld (pv 0) rfl) (pv 1) (fun _ _ => rfl)) pe_int (fun _ _ => rfl)))
 (pss_cons (ps_set (i := 6) sc_Ways_ring.nd rfl (.inl rfl) (pv 2))
 (pss_one (ps_while PassesOwn.never (pt_val pe_bl) (pss_cons (ps_expr (pe_bm PySem.F.plainAttrs_list PySem.F.slot_list_append PySem.F.type_list_append mt_append (pv 4) (pa_cons (pe_ix ix_tup (pe_ix ix_list (pe_fld (pv 0) rfl) (pv 6) (fun _ _ => rfl)) pe_int (fun _ _ => rfl)) pa_nil)))
 (pss_cons (ps_set (i := 7) sc_Ways_ring.nd rfl (.inl rfl) (pe_ix ix_tup (pe_ix ix_list (pe_fld (pv 0) rfl) (pv 6) (fun _ _ => rfl)) pe_int (fun _ _ => rfl)))
 (pss_cons (ps_if (pt_cmpR op_eq (pv 7) (pv 5) (nomark _)) (pss_one (ps_ret (pv 4))) pss_nil)
 (pss_one (ps_set (i := 6) sc_Ways_ring.nd rfl (.inl rfl) (pe_dget (hu_of hr) (pv 3) (pv 7) (fun _ _ => rfl)))))))))))), ?_⟩
    refine Z.w_start (σ' := [some (.ref o), some (.int (s:Int)), some (.int (i:Int)), some (.ref c), none, none, none, none]) rfl ?_
    walk_at "w"
    refine w_fldT T.cl_Ways T.n_Ways__limits W.ob rfl ?_
    walk_at "w"
    rename_i p fp
    have s1 := same_of (Same.refl H) fp (o := .lst [.int (ll r)])
    have ep : (upd H p (.lst [.int (ll r)])) p = some (.lst (lab rs [s])) := by
      rw [upd_same]
      unfold lab
      rw [List.map_cons, gl_at hrs]
      rfl
    generalize upd H p (.lst [.int (ll r)]) = H1 at *
    refine w_fldT T.cl_Ways T.n_Ways__limits (s1 _ _ W.ob) rfl ?_
    have hsl1 : SqL K H1 w.li us := Evl.ex_l s1 hsl
    have g21 := s1 _ _ g2
    walk_at "w"
    refine ⟨fun m σ H' => ∃ (acc : List Nat) (cause t : Nat) (x7 : Option V), m = t ∧ σ = [some (.ref o), some (.int (s : Int)), some (.int (i : Int)), some (.ref c), some (.ref p), some (.int (lx r)), some (.int (cause : Int)), x7] ∧ Same H H' ∧ H' p = some (.lst (lab rs acc)) ∧ RingI rs s r hh ord acc cause t, ⟨t, [s], i, t, none, rfl, rfl, s1, ep, R⟩, ?_⟩
    rintro m σ H' ⟨acc, cause, t, x7, rfl, rfl, sm, ep', I⟩
    have hlen := ring_len I
    have hcl := I.lt cause (List.mem_append_right _ (List.mem_singleton.mpr rfl))
    have hcq : rs[cause]? = some rs[cause] := List.getElem?_eq_getElem hcl
    generalize rs[cause] = q at *
    obtain ⟨tc, k1, k2⟩ := l2.2 cause q hcq
    have k2' := sm _ _ k2
    unfold limT at k2'
    have hslc : SqL K H' w.li us := Evl.ex_l sm hsl
    have hatc : atI us (cause : Int) = some (.ref tc) := atI_nat k1
    obtain ⟨ot, ht1, ht2⟩ := I.last
    rw [gy_at hcq] at ht2
    walk_at "w"
    refine ⟨fun σ' H' => ∃ m', m' < m ∧ ∃ (acc : List Nat) (cause t : Nat) (x7 : Option V), m' = t ∧ σ' = [some (.ref o), some (.int (s : Int)), some (.int (i : Int)), some (.ref c), some (.ref p), some (.int (lx r)), some (.int (cause : Int)), x7] ∧ Same H H' ∧ H' p = some (.lst (lab rs acc)) ∧ RingI rs s r hh ord acc cause t, fun σ' H' h => h, ?_⟩
    walk_at "w"
    refine Z.w_bm ?_
    walk_at "w"
    refine ⟨.inl ⟨rfl, _, .inl (.inl ep')⟩, ?_⟩
    walk_at "w"
    refine w_fldT T.cl_Ways T.n_Ways__limits (sm _ _ W.ob) rfl ?_
    walk_at "w"
    refine ⟨p, _, _, rfl, rfl, ep', ?_, ?_⟩
    · unfold lab
      rw [List.length_map]
      have := W.sz.1
      exact Nat.lt_of_lt_of_le (show acc.length < 1000 by omega) (by decide)
    have e2 : lab rs acc ++ [V.int (ll q)] = lab rs (acc ++ [cause]) := by
      unfold lab
      rw [List.map_append, List.map_cons, gl_at hcq]
      rfl
    rw [e2]
    have sm2 : Same H (upd H' p (.lst (lab rs (acc ++ [cause])))) := same_mut sm fp
    have ep2 : (upd H' p (.lst (lab rs (acc ++ [cause])))) p = some (.lst (lab rs (acc ++ [cause]))) := upd_same
    generalize upd H' p (.lst (lab rs (acc ++ [cause]))) = H2 at *
    have hsl2 : SqL K H2 w.li us := Evl.ex_l sm2 hsl
    have k22 := sm2 _ _ k2
    unfold limT at k22
    walk_at "w"
    refine w_fldT T.cl_Ways T.n_Ways__limits (sm2 _ _ W.ob) rfl ?_
    walk_at "w"
    by_cases he : ly q = lx r
    · refine Z.w_iteT he ?_
      walk_at "w"
      exact h p H2 _ sm2 fp ep2 (ring_end hrs F I ht1 (by rw [ht2, he]))
    · refine Z.w_iteF he ?_
      obtain ⟨t', htt, I'⟩ := ring_step F I (List.getElem?_eq_some_iff.mp hrs).1 ht1 (by rw [ht2]; exact he)
      walk_at "w"
      have hdg := DGet.k (k := Sum.inl (ly q)) (sm2 _ _ hc)
      rw [caus_get, ← ht2, ord_find F.nd (List.mem_of_getElem? ht1)] at hdg
      refine ⟨c, .int (ot.2.2 : Int), rfl, ?_, ?_⟩
      · rw [← ht2]
        exact hdg
      · walk_at "w"
        exact ⟨t', htt, _, _, _, _, rfl, rfl, sm2, ep2, I'⟩
end
end L

namespace L
open PySem PySem.Spec PyProof.Rows L2 Z M WY HQ
theorem putK_hD {ks : List Int} {h : Int → Int} {p v : Int} (hp : p ∈ ks) : putK (hD ks h) (Sum.inl p) (.int v) = hD ks (fun q => if q = p then v else h q) := by
  unfold putK
  have : ((hD ks h).any fun kv => decide (kv.1 = Sum.inl p)) = true := by
    rw [List.any_eq_true]
    exact ⟨(Sum.inl p, .int (h p)), List.mem_map.mpr ⟨p, hp, rfl⟩, decide_eq_true rfl⟩
  rw [if_pos this]
  unfold hD
  rw [List.map_map]
  refine List.map_congr_left fun q hq => ?_
  show (if (Sum.inl q : Key) = Sum.inl p then ((Sum.inl q : Key), V.int v) else (Sum.inl q, .int (h q))) = (Sum.inl q, .int (if q = p then v else h q))
  by_cases e : q = p
  · subst e
    rw [if_pos rfl, if_pos rfl]
  · rw [if_neg (fun z => e (Sum.inl.inj z)), if_neg e]
theorem merge_hD {ks : List Int} : ∀ (ord : List Fal) (h : Int → Int), (∀ o ∈ ord, o.1 ∈ ks) → (ord.map (·.1)).Nodup → mergeK (hD ks h) (ord.map fun o => ((Sum.inl o.1 : Key), V.int o.2.1)) = hD ks (newH ord h)
  | [], h, _, _ => rfl
  | o :: ord, h, hk, nd => by
    rw [List.map_cons, List.nodup_cons] at nd
    show mergeK (putK (hD ks h) (Sum.inl o.1) (.int o.2.1)) (ord.map _) = _
    rw [putK_hD (hk o List.mem_cons_self), merge_hD ord _ (fun x hx => hk x (List.mem_cons_of_mem _ hx)) nd.2]
    unfold hD
    refine List.map_congr_left fun q hq => ?_
    have : newH ord (fun q => if q = o.1 then o.2.1 else h q) q = newH (o :: ord) h q := by
      unfold newH
      rw [List.find?_cons]
      by_cases e : o.1 = q
      · have hno : ord.find? (fun x => x.1 == q) = none := ord_none fun x hx z => nd.1 (List.mem_map.mpr ⟨x, hx, by rw [z, e]⟩)
        rw [show (o.1 == q) = true from beq_iff_eq.mpr e, hno]
        show (if q = o.1 then o.2.1 else h q) = o.2.1
        rw [if_pos e.symm]
      · rw [show (o.1 == q) = false from beq_eq_false_iff_ne.mpr e]
        show ((ord.find? fun x => x.1 == q).map (·.2.1)).getD (if q = o.1 then o.2.1 else h q) = ((ord.find? fun x => x.1 == q).map (·.2.1)).getD (h q)
        rw [if_neg (fun z => e z.symm)]
    rw [this]
theorem feas_same {rs : List Lim} {s : Nat} {h : Int → Int} {r : Lim} (hf : Feas rs s h) (hr : rs[s]? = some r) (hk : h (lx r) ≤ h (ly r) + lk r) : Feas rs (s + 1) h := fun i q hi hq => by
  by_cases e : i = s
  · subst e
    rw [hr] at hq
    obtain rfl := Option.some.inj hq
    exact hk
  · exact hf i q (by omega) hq
theorem feas_congr {rs : List Lim} {s : Nat} {h h' : Int → Int} {ks : List Int} (pl : PlIn rs ks) (hf : Feas rs s h) (e : ∀ p ∈ ks, h' p = h p) : Feas rs s h' := fun i q hi hq => by
  have hm := List.mem_of_getElem? hq
  rw [e _ (pl q hm).1, e _ (pl q hm).2]
  exact hf i q hi hq
section
variable {P : Program} {w' : World} {K : PySem.W.Frag} {mg : Str → Option Value} {base : Heap}
def fallD (ord : List Fal) : List (Key × V) := ord.map fun o => (Sum.inl o.1, V.int o.2.1)
def causD (ord : List Fal) : List (Key × V) := ord.map fun o => (Sum.inl o.1, V.int (o.2.2 : Int))
def spFall (C : Addr) : Sp := fun vs H Q _ => ∃ (o : Addr) (w : WyO) (ks : List Int) (h : Int → Int) (la : Int → Addr) (rs : List Lim) (s : Nat) (r : Lim), vs = [.ref o, .int (s : Int)] ∧ WyC C H o w ks h la rs s ∧ PlIn rs ks ∧ rs[s]? = some r ∧
  (∀ p H' ns, Same H H' → H p = none → H' p = some (.lst (lab rs ns)) → Ring rs ns → Q (.ref p) H') ∧
  (∀ H' h', (∀ b u, b ≠ w.hd → H b = some u → H' b = some u) → H' w.hd = some (.dK (hD ks h')) → Feas rs (s + 1) h' → Q .non H')
theorem w_while {c : TT} {tb : TS} {D : Ends} {σ : L2.St} {H : Hp} (h : ∃ W : Nat → L2.St → Hp → Prop, (∃ m, W m σ H) ∧ ∀ m σ H, W m σ H → c σ H fun b H1 => if b = true then ∃ N : L2.St → Hp → Prop, (∀ σ' H', N σ' H' → ∃ m', m' < m ∧ W m' σ' H') ∧ tb { D with nx := N, ct := N, bk := D.nx } σ H1 else D.nx σ H1) : tWhile c tb D σ H := h
theorem ok_fall (T : Txt K mg) : FnOk P w' K mg base CX0 3 T.f_Ways_fall T.fd_Ways_fall ["self", "number"] (spFall T.C_Ways) := by
  have G_Ways_pulls := ok_pulls (P := P) (w' := w') (base := base) T
  have G_Ways_ring := ok_Wring (P := P) (w' := w') (base := base) T
  refine T.F_Ways_fall.ok sc_Ways_fall (fun vs H Q E h => ?_) (fun cdv A outer s0 H vs Q E hr h => ?_)
  · obtain ⟨o, w, ks, hh, la, rs, s, r, rfl, _⟩ := h
    rfl
  · obtain ⟨o, w, ks, hh, la, rs, s, r, rfl, W, pl, hrs, hA, hB⟩ := h
    obtain ⟨us0, l1, l2⟩ := W.li
    obtain ⟨t0, g1, g2⟩ := l2.2 s r hrs
    have hsl : SqL K H w.li us0 := .inl (.inl l1)
    have hat : atI us0 (s : Int) = some (.ref t0) := atI_nat g1
    unfold limT at g2
    obtain ⟨kx, ky⟩ := pl r (List.mem_of_getElem? hrs)
    refine ⟨_, (pss_cons (ps_asg (pe_ix ix_list (pe_fld (pv 0) rfl) (pv 1) (fun _ _ => rfl)) (pg_tup (by rfl) (pgs_cons (pg_name (i := 2) sc_Ways_fall.nd rfl (.inl rfl)) (pgs_cons (pg_name (i := 3) sc_Ways_fall.nd rfl (.inl rfl)) (pgs_cons (pg_name (i := 4) sc_Ways_fall.nd rfl (.inl rfl)) (pgs_cons (pg_name (i := 5) sc_Ways_fall.nd rfl (.inl rfl)) pgs_nil))))))
 (pss_cons (ps_if (pt_cmpR op_eq (pv 2) (pv 3) (nomark _)) (pss_one (ps_ret (pe_ifExp (pt_cmpR op_lt (pv 4) pe_int (nomark _)) (pe_lst (pa_cons (pv 5) pa_nil)) pe_non))) pss_nil)
 (pss_cons (ps_set (i := 6) sc_Ways_fall.nd rfl (.inl rfl) pe_dnewK)
 (pss_cons (ps_set (i := 7) sc_Ways_fall.nd rfl (.inl rfl) pe_dnewK)
 (pss_cons (ps_set (i := 8) sc_Ways_fall.nd rfl (.inl rfl) (pe_lst pa_nil))
 (pss_cons (ps_if (pt_cmpR op_gt (pe_dget (hu_of hr) (pe_fld (pv 0) rfl) (pv 2) (fun _ _ => rfl)) (pe_op op_add (pe_dget (hu_of hr) (pe_fld (pv 0) rfl) (pv 3) (fun _ _ => rfl)) (pv 4)) (nomark _)) (pss_one (ps_expr (pe_bm PySem.F.plainAttrs_list PySem.F.slot_list_append PySem.F.type_list_append mt_append (pv 8) (pa_cons (pe_tup (pa_cons (pe_op op_sub (pe_op op_add (pe_dget (hu_of hr) (pe_fld (pv 0) rfl) (pv 3) (fun _ _ => rfl)) (pv 4)) (pe_dget (hu_of hr) (pe_fld (pv 0) rfl) (pv 2) (fun _ _ => rfl))) (pa_cons (pv 2) (pa_cons (pv 1) pa_nil)))) pa_nil)))) pss_nil)
 (pss_cons (ps_while PassesOwn.never (pt_truth (pv 8) (by intro _; rfl)) (pss_cons (ps_asg (pe_callBfun (HQ.cr_pop (HQ.in1_units hr)) (by rfl) T.m_heappop (pa_cons (pv 8) pa_nil)) (pg_tup (by rfl) (pgs_cons (pg_name (i := 9) sc_Ways_fall.nd rfl (.inl rfl)) (pgs_cons (pg_name (i := 10) sc_Ways_fall.nd rfl (.inl rfl)) (pgs_cons (pg_name (i := 11) sc_Ways_fall.nd rfl (.inl rfl)) pgs_nil)))))
 (pss_one (ps_if (pt_cmp (pc_dnotin (hu_of hr) (pv 10) (pv 6))) (pss_cons (ps_dput (hu_of hr) (pv 6) (pv 10) (pe_op op_add (pe_dget (hu_of hr) (pe_fld (pv 0) rfl) (pv 10) (fun _ _ => rfl)) (pv 9)) rfl)
 (pss_cons (ps_dput (hu_of hr) (pv 7) (pv 10) (pv 11) rfl)
 (pss_one (ps_for PassesOwn.never rfl (pi_list (pe_meth (pv 0) T.cl_Ways T.M_Ways_pulls G_Ways_pulls (hr.mono (by first | decide | omega)) T.b_Ways_pulls .nil pass0 (pa_cons (pv 10) (pa_cons (pv 6) pa_nil)))) (pg_name (i := 12) sc_Ways_fall.nd rfl (.inl rfl)) (pss_cons (ps_if (pt_cmpR op_eq (pe_ix ix_tup (pv 12) pe_int (fun _ _ => rfl)) (pv 3) (nomark _)) (pss_one (ps_ret (pe_meth (pv 0) T.cl_Ways T.M_Ways_ring G_Ways_ring (hr.mono (by first | decide | omega)) T.b_Ways_ring .nil pass0 (pa_cons (pv 1) (pa_cons (pe_ix ix_tup (pv 12) pe_int (fun _ _ => rfl)) (pa_cons (pv 7) pa_nil)))))) pss_nil)
 (pss_one (ps_expr (pe_callBfun (HQ.cr_push (HQ.in1_units hr)) (by rfl) T.m_heappush (pa_cons (pv 8) (pa_cons (pv 12) pa_nil)))))))))) pss_nil))))
 (pss_cons (ps_expr (pe_bm PySem.F.plainAttrs_dict PySem.F.slot_dict_update PySem.F.type_dict_update DT.mt_update (pe_fld (pv 0) rfl) (pa_cons (pv 6) pa_nil)))
 (pss_one (ps_ret pe_non)))))))))), ?_⟩
    refine Z.w_start (σ' := [some (.ref o), some (.int (s:Int)), none, none, none, none, none, none, none, none, none, none, none]) rfl ?_
    walk_at "w"
    refine w_fldT T.cl_Ways T.n_Ways__limits W.ob rfl ?_
    walk_at "w"
    by_cases hxy : lx r = ly r
    · refine Z.w_iteT hxy ?_
      walk_at "w"
      by_cases hk : lk r < 0
      · refine Z.w_iteT hk ?_
        walk_at "w"
        rename_i p fp
        refine hA p _ [s] (same_of (Same.refl H) fp) fp (by rw [upd_same]; unfold lab; rw [List.map_cons, gl_at hrs]; rfl) ⟨by simp, fun i hi => ?_, by simp, fun j i i' hi hi' => ?_, ?_⟩
        · rw [List.mem_singleton.mp hi]
          exact (List.getElem?_eq_some_iff.mp hrs).1
        · have hj : j = 0 := by
            have := (List.getElem?_eq_some_iff.mp hi).1
            rw [List.length_singleton] at this
            omega
          subst hj
          obtain rfl := Option.some.inj hi
          rw [show (0 + 1) % [s].length = 0 by simp] at hi'
          obtain rfl : s = i' := Option.some.inj hi'
          rw [gy_at hrs, gx_at hrs, hxy]
        · simp only [List.map_cons, List.map_nil, List.sum_cons, List.sum_nil, gk_at hrs]
          omega
      · refine Z.w_iteF hk ?_
        walk_at "w"
        exact hB H hh (fun b u _ e => e) W.hd (feas_same W.fe hrs (by rw [hxy]; omega))
    · refine Z.w_iteF hxy ?_
      repeat' (first | with_reducible refine seqIf (fun σ' H2 => ∃ (f c q : Addr) (us : List V) (es : List Ent), σ' = [some (.ref o), some (.int (s : Int)), some (.int (lx r)), some (.int (ly r)), some (.int (lk r)), some (.int (ll r)), some (.ref f), some (.ref c), some (.ref q), none, none, none, none] ∧ Same H H2 ∧ H f = none ∧ H c = none ∧ H q = none ∧ c ≠ f ∧ q ≠ c ∧ q ≠ f ∧ H2 f = some (.dK []) ∧ H2 c = some (.dK []) ∧ H2 q = some (.lst us) ∧ QAt K H2 us es ∧ HeapL es ∧ es.length ≤ 1 ∧ ((es = [] ∧ hh (lx r) ≤ hh (ly r) + lk r) ∨ FallI rs s r hh [] es)) (fun Rk kk => ?_) ?_ | walk_at "w1")
      · rename_i f ff c fc q fq
        have s3 : Same H (upd (upd (upd H f (.dK [])) c (.dK [])) q (.lst [])) := same_of (same_of (same_of (Same.refl H) ff) fc) fq
        have nfc : c ≠ f := fun e => by subst e; rw [upd_same] at fc; cases fc
        have nqc : q ≠ c := fun e => by subst e; rw [upd_same] at fq; cases fq
        have nqf : q ≠ f := fun e => by subst e; rw [upd_ne nqc, upd_same] at fq; cases fq
        have ef : (upd (upd (upd H f (.dK [])) c (.dK [])) q (.lst [])) f = some (.dK []) := by rw [upd_ne nqf.symm, upd_ne nfc.symm, upd_same]
        have ec : (upd (upd (upd H f (.dK [])) c (.dK [])) q (.lst [])) c = some (.dK []) := by rw [upd_ne nqc.symm, upd_same]
        have eq : (upd (upd (upd H f (.dK [])) c (.dK [])) q (.lst [])) q = some (.lst []) := upd_same
        have fc1 : H c = none := by rw [upd_ne nfc] at fc; exact fc
        have fq1 : H q = none := by rw [upd_ne nqc, upd_ne nqf] at fq; exact fq
        generalize upd (upd (upd H f (.dK [])) c (.dK [])) q (.lst []) = H1 at *
        refine w_fldT T.cl_Ways T.n_Ways__heights (s3 _ _ W.ob) rfl ?_
        walk_at "w"
        refine ⟨w.hd, _, rfl, dget_hD (s3 _ _ W.hd) kx, ?_⟩
        walk_at "w"
        refine w_fldT T.cl_Ways T.n_Ways__heights (s3 _ _ W.ob) rfl ?_
        walk_at "w"
        refine ⟨w.hd, _, rfl, dget_hD (s3 _ _ W.hd) ky, ?_⟩
        walk_at "w"
        by_cases hgt : hh (lx r) > hh (ly r) + lk r
        · refine Z.w_iteT hgt ?_
          walk_at "w"
          refine Z.w_bm ?_
          walk_at "w"
          refine ⟨.inl ⟨rfl, _, .inl (.inl eq)⟩, ?_⟩
          walk_at "w"
          refine w_fldT T.cl_Ways T.n_Ways__heights (s3 _ _ W.ob) rfl ?_
          walk_at "w"
          refine ⟨w.hd, _, rfl, dget_hD (s3 _ _ W.hd) ky, ?_⟩
          walk_at "w"
          refine w_fldT T.cl_Ways T.n_Ways__heights (s3 _ _ W.ob) rfl ?_
          walk_at "w"
          refine ⟨w.hd, _, rfl, dget_hD (s3 _ _ W.hd) kx, ?_⟩
          walk_at "w"
          rename_i t ft
          have s4 := same_of (Same.refl H1) ft (o := .tup [.int (hh (ly r) + lk r - hh (lx r)), .int (lx r), .int (s : Int)])
          have nt : t ≠ q := fun e => by subst e; rw [eq] at ft; cases ft
          refine ⟨q, _, _, rfl, rfl, s4 _ _ eq, (show 0 < sizeLine by decide), ?_⟩
          refine kk _ _ ⟨f, c, q, [.ref t], [(hh (ly r) + lk r - hh (lx r), lx r, (s : Int))], rfl, same_mut (s3.trans s4) fq1, ff, fc1, fq1, nfc, nqc, nqf, ?_, ?_, upd_same, ⟨rfl, fun i e he => ?_⟩, fun j hj a b ha hb => ?_, Nat.le_refl _, .inr (fall_start rfl hgt hxy fun x => by simp)⟩
          · rw [upd_ne nqf.symm]
            exact s4 _ _ ef
          · rw [upd_ne nqc.symm]
            exact s4 _ _ ec
          · have hi0 : i = 0 := by
              have := (List.getElem?_eq_some_iff.mp he).1
              rw [List.length_singleton] at this
              omega
            subst hi0
            obtain rfl := Option.some.inj he
            exact ⟨t, rfl, .inl (.inl (by rw [upd_ne nt, upd_same]))⟩
          · have := (List.getElem?_eq_some_iff.mp hb).1
            rw [List.length_singleton] at this
            omega
        · refine Z.w_iteF hgt ?_
          walk_at "w"
          exact kk _ _ ⟨f, c, q, [], [], rfl, s3, ff, fc1, fq1, nfc, nqc, nqf, ef, ec, eq, ⟨rfl, fun i e he => absurd he (by simp)⟩, (fun j hj a b ha hb => absurd hb (by simp)), Nat.zero_le _, .inl ⟨rfl, by omega⟩⟩
      · rintro σ' H2 ⟨f, c, q, us, es, rfl, s2, ff, fc, fq, nfc, nqc, nqf, ef, ec, eq, hq, hh', hel, hst⟩
        refine w_seq (w_while ?_)
        refine ⟨fun m σ H' => ∃ (x9 x10 x11 x12 : Option V) (ord : List Fal) (us : List V) (es : List Ent), m = (ks.length - ord.length) * 2000 + es.length ∧ σ = [some (.ref o), some (.int (s : Int)), some (.int (lx r)), some (.int (ly r)), some (.int (lk r)), some (.int (ll r)), some (.ref f), some (.ref c), some (.ref q), x9, x10, x11, x12] ∧ Same H H' ∧ H' f = some (.dK (fallD ord)) ∧ H' c = some (.dK (causD ord)) ∧ H' q = some (.lst us) ∧ QAt K H' us es ∧ HeapL es ∧ es.length ≤ 1 + ord.length * 1000 ∧ (∀ o' ∈ ord, o'.1 ∈ ks) ∧ (ord.map (·.1)).Nodup ∧ ((es = [] ∧ ord = [] ∧ hh (lx r) ≤ hh (ly r) + lk r) ∨ FallI rs s r hh ord es), ⟨_, none, none, none, none, [], us, es, rfl, rfl, s2, ef, ec, eq, hq, hh', by omega, (fun o' ho' => absurd ho' (by simp)), List.nodup_nil, hst.imp (fun z => ⟨z.1, rfl, z.2⟩) id⟩, ?_⟩
        rintro m σ H' ⟨x9, x10, x11, x12, ord, us', es', rfl, rfl, sm, ef', ec', eq', hq', hhp', hel', hok, hnd, hst'⟩
        walk_at "w"
        have nhf : w.hd ≠ f := ne_of_none W.hd ff
        have hel0 := hq'.1
        refine ⟨!us'.isEmpty, .inl ⟨us', .inl (.inl eq'), rfl⟩, ?_⟩
        cases us' with
        | nil =>
          have e0 : es' = [] := List.eq_nil_of_length_eq_zero hel0.symm
          subst e0
          refine Z.w_ibF ?_
          walk_at "w"
          refine Z.w_bm ?_
          refine w_fldT T.cl_Ways T.n_Ways__heights (sm _ _ W.ob) rfl ?_
          refine ⟨.inr (.inr (.inl ⟨rfl, .inl ⟨_, sm _ _ W.hd⟩⟩)), ?_⟩
          walk_at "w"
          refine ⟨w.hd, f, _, _, rfl, rfl, nhf, sm _ _ W.hd, ef', ?_, ?_⟩
          · have h1 : (hD ks hh).length = ks.length := List.length_map _
            have h2 : (fallD ord).length = ord.length := List.length_map _
            have h3 : ord.length ≤ ks.length := by
              have := List.Nodup.length_le_of_subset hnd (fun y hy => by
                obtain ⟨o', ho', rfl⟩ := List.mem_map.mp hy
                exact hok o' ho' : ord.map (·.1) ⊆ ks)
              rw [List.length_map] at this
              exact this
            have := W.sz.2
            rw [h1, h2]
            exact Nat.le_trans (show ks.length + ord.length ≤ 10000 by omega) (by decide)
          · unfold fallD
            rw [merge_hD ord hh hok hnd]
            walk_at "w"
            refine hB _ (newH ord hh) (fun b u n e => by rw [upd_ne n]; exact sm _ _ e) upd_same ?_
            rcases hst' with ⟨_, rfl, z⟩ | z
            · exact feas_same W.fe hrs z
            · exact fall_end hrs W.fe z
        | cons u0 ur =>
          have hpos : 0 < es'.length := by rw [← hel0]; exact Nat.succ_pos _
          have F : FallI rs s r hh ord es' := hst'.resolve_left fun z => by rw [z.1] at hpos; exact absurd hpos (by decide)
          refine ⟨fun σ' H' => ∃ m', m' < (ks.length - ord.length) * 2000 + es'.length ∧ ∃ (x9 x10 x11 x12 : Option V) (ord : List Fal) (us : List V) (es : List Ent), m' = (ks.length - ord.length) * 2000 + es.length ∧ σ' = [some (.ref o), some (.int (s : Int)), some (.int (lx r)), some (.int (ly r)), some (.int (lk r)), some (.int (ll r)), some (.ref f), some (.ref c), some (.ref q), x9, x10, x11, x12] ∧ Same H H' ∧ H' f = some (.dK (fallD ord)) ∧ H' c = some (.dK (causD ord)) ∧ H' q = some (.lst us) ∧ QAt K H' us es ∧ HeapL es ∧ es.length ≤ 1 + ord.length * 1000 ∧ (∀ o' ∈ ord, o'.1 ∈ ks) ∧ (ord.map (·.1)).Nodup ∧ ((es = [] ∧ ord = [] ∧ hh (lx r) ≤ hh (ly r) + lk r) ∨ FallI rs s r hh ord es), fun σ' H' h => h, ?_⟩
          walk_at "w"
          refine ⟨q, _, es', rfl, eq', hq', hhp', hpos, fun us2 es2 t e h0 het hq2 hl2 hm2 hh2 => ?_⟩
          have sm2 : Same H (upd H' q (.lst us2)) := same_mut sm fq
          have ef2 : (upd H' q (.lst us2)) f = some (.dK (fallD ord)) := by rw [upd_ne nqf.symm]; exact ef'
          have ec2 : (upd H' q (.lst us2)) c = some (.dK (causD ord)) := by rw [upd_ne nqc.symm]; exact ec'
          have eq2 : (upd H' q (.lst us2)) q = some (.lst us2) := upd_same
          generalize upd H' q (.lst us2) = H3 at *
          have he' : e ∈ es' := List.mem_of_getElem? h0
          have hmin : ∀ x ∈ es', e.1 ≤ x.1 := fun x hx => leE_fst (hhp'.least h0 hx)
          obtain ⟨_, _, c', hc', hb4⟩ := F.b e he'
          have hpk : e.2.1 ∈ ks := by
            rcases hb4 with ⟨_, z, _⟩ | ⟨_, q', z1, z2, _⟩
            · rw [z]
              exact kx
            · rw [← z2]
              exact (pl q' (List.mem_of_getElem? z1)).1
          have het' : SqT K H3 t [.int e.1, .int e.2.1, .int e.2.2] := het
          walk_at "w"
          refine ⟨f, _, rfl, DGet.k (k := Sum.inl e.2.1) ef2, ?_⟩
          rw [show valV (fallD ord) (Sum.inl e.2.1) = _ from ord_get hnd e.2.1]
          by_cases hin : ∀ o' ∈ ord, o'.1 ≠ e.2.1
          · rw [ord_none hin]
            simp only [Option.map_none, Option.isSome_none]
            walk_at "w"
            refine w_fldT T.cl_Ways T.n_Ways__heights (sm2 _ _ W.ob) rfl ?_
            walk_at "w"
            refine ⟨w.hd, _, rfl, dget_hD (sm2 _ _ W.hd) hpk, ?_⟩
            have FA := fall_A F he' hc' hin
            have hk2 : ∀ o' ∈ ord ++ [(e.2.1, hh e.2.1 + e.1, c')], o'.1 ∈ ks := fun o' ho' => by
              rcases List.mem_append.mp ho' with z | z
              · exact hok o' z
              · rw [List.mem_singleton.mp z]
                exact hpk
            have hol : ord.length + 1 ≤ ks.length := by
              have := List.Nodup.length_le_of_subset FA.nd (fun y hy => by
                obtain ⟨o', ho', rfl⟩ := List.mem_map.mp hy
                exact hk2 o' ho' : (ord ++ [(e.2.1, hh e.2.1 + e.1, c')]).map (·.1) ⊆ ks)
              rw [List.length_map, List.length_append] at this
              exact this
            have hfl : (fallD ord).length < sizeLine := by
              unfold fallD
              rw [List.length_map]
              have := W.sz.2
              exact Nat.lt_of_lt_of_le (show ord.length < 5000 by omega) (by decide)
            have hcl : (causD ord).length < sizeLine := by
              unfold causD
              rw [List.length_map]
              have := W.sz.2
              exact Nat.lt_of_lt_of_le (show ord.length < 5000 by omega) (by decide)
            walk_at "w"
            refine ⟨f, _, rfl, DPut.k (k := Sum.inl e.2.1) ef2 hfl, ?_⟩
            rw [putK_new _ (show valV (fallD ord) (Sum.inl e.2.1) = none by rw [show valV (fallD ord) (Sum.inl e.2.1) = _ from ord_get hnd e.2.1, ord_none hin]; rfl)]
            have sm3 : Same H (upd H3 f (.dK (fallD ord ++ [(Sum.inl e.2.1, .int (hh e.2.1 + e.1))]))) := same_mut sm2 ff
            walk_at "w"
            refine ⟨c, _, rfl, DPut.k (k := Sum.inl e.2.1) (by rw [upd_ne nfc]; exact ec2) hcl, ?_⟩
            rw [putK_new _ (show valV (causD ord) (Sum.inl e.2.1) = none by rw [show valV (causD ord) (Sum.inl e.2.1) = _ from caus_get e.2.1, ord_none hin]; rfl)]
            have sm4 : Same H (upd (upd H3 f (.dK (fallD ord ++ [(Sum.inl e.2.1, .int (hh e.2.1 + e.1))]))) c (.dK (causD ord ++ [(Sum.inl e.2.1, .int e.2.2)]))) := same_mut sm3 fc
            have ef4 : (upd (upd H3 f (.dK (fallD ord ++ [(Sum.inl e.2.1, .int (hh e.2.1 + e.1))]))) c (.dK (causD ord ++ [(Sum.inl e.2.1, .int e.2.2)]))) f = some (.dK (fallD (ord ++ [(e.2.1, hh e.2.1 + e.1, c')]))) := by
              rw [upd_ne nfc.symm, upd_same]
              unfold fallD
              rw [List.map_append]
              rfl
            have ec4 : (upd (upd H3 f (.dK (fallD ord ++ [(Sum.inl e.2.1, .int (hh e.2.1 + e.1))]))) c (.dK (causD ord ++ [(Sum.inl e.2.1, .int e.2.2)]))) c = some (.dK (causD (ord ++ [(e.2.1, hh e.2.1 + e.1, c')]))) := by
              rw [upd_same]
              unfold causD
              rw [List.map_append, hc']
              rfl
            have eq4 : (upd (upd H3 f (.dK (fallD ord ++ [(Sum.inl e.2.1, .int (hh e.2.1 + e.1))]))) c (.dK (causD ord ++ [(Sum.inl e.2.1, .int e.2.2)]))) q = some (.lst us2) := by rw [upd_ne nqc, upd_ne nqf]; exact eq2
            have hq4 : QAt K (upd (upd H3 f (.dK (fallD ord ++ [(Sum.inl e.2.1, .int (hh e.2.1 + e.1))]))) c (.dK (causD ord ++ [(Sum.inl e.2.1, .int e.2.2)]))) us2 es2 := ⟨hq2.1, fun i x hx => by
              obtain ⟨t2, k1, k2⟩ := hq2.2 i x hx
              exact ⟨t2, k1, sqT_tu k2 ((Tu.dict ef2).trans (Tu.dict (by rw [upd_ne nfc]; exact ec2)))⟩⟩
            generalize upd (upd H3 f (.dK (fallD ord ++ [(Sum.inl e.2.1, .int (hh e.2.1 + e.1))]))) c (.dK (causD ord ++ [(Sum.inl e.2.1, .int e.2.2)])) = H4 at *
            have W4 := W.same (fun b u _ => sm4 b u) (TupS.of sm4)
            walk_at "w"
            refine w_meth0 W4.ob rfl (by rfl) ?_
            walk_at "w"
            refine ⟨o, f, w, ks, hh, la, rs, s, ord ++ [(e.2.1, hh e.2.1 + e.1, c')], (e.2.1, hh e.2.1 + e.1, c'), rfl, W4, pl, ef4, List.mem_append_right _ (List.mem_singleton.mpr rfl), FA.nd, hpk, fun p H5 ups ps s5 fp ep hl5 htup hPO hps => ?_⟩
            refine ⟨p, rfl, ⟨_, .inl (.inl ep)⟩, ?_⟩
            have npq : p ≠ q := fun e => by subst e; rw [eq4] at fp; cases fp
            refine for_list (K := K) (xs := ups) (fun j σ H6 => ∃ (x12 : Option V) (us : List V) (es : List Ent), σ = [some (.ref o), some (.int (s : Int)), some (.int (lx r)), some (.int (ly r)), some (.int (lk r)), some (.int (ll r)), some (.ref f), some (.ref c), some (.ref q), some (.int e.1), some (.int e.2.1), some (.int e.2.2), x12] ∧ (∀ b u, b ≠ q → H5 b = some u → H6 b = some u) ∧ Same H H6 ∧ H6 q = some (.lst us) ∧ QAt K H6 us es ∧ HeapL es ∧ (∀ x, x ∈ es ↔ x ∈ es2 ∨ x ∈ ps.take j) ∧ es.length = es2.length + j ∧ (∀ x ∈ ps.take j, x.2.1 ≠ ly r) ∧ j ≤ ps.length) ?_ ?_ ?_ ?_
            · refine ⟨_, us2, es2, rfl, fun b u _ e => e, sm4.trans s5, s5 _ _ eq4, ⟨hq4.1, fun i x hx => ?_⟩, hh2, fun x => by simp, rfl, fun x hx => absurd hx (by simp), Nat.zero_le _⟩
              obtain ⟨t2, k1, k2⟩ := hq4.2 i x hx
              exact ⟨t2, k1, sqT_tu k2 (.ofS s5)⟩
            · rintro j σ H6 hj ⟨x12', us, es, rfl, fr6, _⟩
              exact .inl (.inl (fr6 _ _ npq ep))
            · rintro j v σ H6 hv ⟨x12', us, es, rfl, fr6, sm6, eq6, hq6, hh6, hm6, hl6, hny6, hj6⟩
              have hju : j < ups.length := (List.getElem?_eq_some_iff.mp hv).1
              have hjp : j < ps.length := by rw [← hl5]; exact hju
              have hpj : ps[j]? = some ps[j] := List.getElem?_eq_getElem hjp
              have hpm : ps[j] ∈ ps := List.getElem_mem hjp
              obtain ⟨t2, k1, k2⟩ := htup j _ hpj
              generalize ps[j] = x at *
              rw [hv] at k1
              obtain rfl := Option.some.inj k1
              have nt2 : t2 ≠ q := fun e => by
                subst e
                rw [s5 _ _ eq4] at k2
                cases k2
              have k26 := fr6 _ _ nt2 k2
              have W6 := W.same (fun b u _ => sm6 b u) (TupS.of sm6)
              obtain ⟨i, q', hi, hq1, hqy, hxe, hneg, hno⟩ := hPO.1 x hpm
              have htk : ps.take (j + 1) = ps.take j ++ [x] := by rw [List.take_add_one, hpj]; rfl
              walk_at "w"
              by_cases hxy2 : x.2.1 = ly r
              · refine Z.w_iteT hxy2 ?_
                walk_at "w"
                refine w_meth0 W6.ob rfl (by rfl) ?_
                walk_at "w"
                have hx22 : x.2.2 = (i : Int) := by rw [hxe]
                have hx21 : lx q' = ly r := by rw [hxe] at hxy2; exact hxy2
                rw [hx22]
                have hnew : (ord ++ [(e.2.1, hh e.2.1 + e.1, c')])[ord.length]? = some (e.2.1, hh e.2.1 + e.1, c') := by rw [List.getElem?_append_right (Nat.le_refl _), Nat.sub_self]; rfl
                have RI : RingI rs s r hh (ord ++ [(e.2.1, hh e.2.1 + e.1, c')]) [s] i ord.length := ring_start (Q := es') hrs hxy hnew hi hq1 hqy hx21 (by rw [hxe, hx21] at hneg; exact hneg)
                refine ⟨o, c, w, ks, hh, la, rs, s, i, ord.length, r, ord ++ [(e.2.1, hh e.2.1 + e.1, c')], rfl, W6, fr6 _ _ nqc.symm (s5 _ _ ec4), hrs, FA, RI, fun p2 H7 ns s7 f7 e7 R7 => ?_⟩
                walk_at "w"
                exact hA p2 H7 ns (sm6.trans s7) (fresh_of1 sm6 f7) e7 R7
              · refine Z.w_iteF hxy2 ?_
                walk_at "w"
                refine ⟨q, t2, us, es, x, rfl, eq6, hq6, hh6, .inl (.inl k26), ?_, fun us7 es7 hq7 hl7 hm7 hh7 => ?_⟩
                · rw [hq6.1]
                  have := W.sz.2
                  have : es2.length + 1 = es'.length := hl2
                  omega
                · refine ⟨_, us7, es7, rfl, fun b u n e => by rw [upd_ne n]; exact fr6 _ _ n e, same_mut sm6 fq, upd_same, hq7, hh7, fun y => ?_, by rw [hl7, hl6]; omega, fun y hy => ?_, hjp⟩
                  · rw [hm7, hm6, htk, List.mem_append, List.mem_singleton]
                    constructor
                    · rintro ((z | z) | z)
                      · exact .inl z
                      · exact .inr (.inl z)
                      · exact .inr (.inr z)
                    · rintro (z | z | z)
                      · exact .inl (.inl z)
                      · exact .inl (.inr z)
                      · exact .inr z
                  · rw [htk] at hy
                    rcases List.mem_append.mp hy with z | z
                    · exact hny6 y z
                    · rw [List.mem_singleton.mp z]
                      exact hxy2
            · rintro σ H6 ⟨x12', us, es, rfl, fr6, sm6, eq6, hq6, hh6, hm6, hl6, hny6, hj6⟩
              rw [hl5, List.take_length] at hm6 hny6
              rw [hl5] at hl6
              have nqf' : f ≠ q := nqf.symm
              refine ⟨_, ?_, _, _, _, _, ord ++ [(e.2.1, hh e.2.1 + e.1, c')], us, es, rfl, rfl, sm6, fr6 _ _ nqf' (s5 _ _ ef4), fr6 _ _ nqc.symm (s5 _ _ ec4), eq6, hq6, hh6, ?_, hk2, FA.nd, .inr (fall_next W.fe F hm2 hmin hc' hin hPO hny6 hm6)⟩
              · rw [List.length_append, List.length_singleton]
                omega
              · rw [List.length_append, List.length_singleton]
                omega
          · have : ∃ o' ∈ ord, o'.1 = e.2.1 := Classical.byContradiction fun hn2 => hin fun o' ho' z => hn2 ⟨o', ho', z⟩
            obtain ⟨o', ho', hox⟩ := this
            rw [← hox, ord_find hnd ho', hox]
            simp only [Option.map_some, Option.isSome_some]
            walk_at "w"
            refine ⟨_, ?_, _, _, _, _, ord, us2, es2, rfl, rfl, sm2, ef2, ec2, eq2, hq2, hh2, by omega, hok, hnd, .inr (fall_skip F hm2 ⟨o', ho', hox⟩)⟩
            omega
end
end L

local macro_rules | `(tactic| walk_at "w1") => `(tactic| first
  | with_reducible refine L.w_tdget ?_
  | with_reducible refine L.w_tdget2 ?_
  | with_reducible refine Z.w_rEqI ?_
  | with_reducible refine Z.w_rNeI ?_
  | ((with_reducible refine' Z.w_rEq ?wh ?_); (case wh => exact rfl))
  | ((with_reducible refine' Z.w_rNe ?wh ?_); (case wh => exact rfl))
  | ((with_reducible refine Z.w_iteNF ?wh ?_); (case wh => exact rfl))
  | ((with_reducible refine Z.w_iteNT ?wh ?_); (case wh => (intro h; cases h; done)))
  | fail "w1")

namespace L
open PySem PySem.Spec PyProof.Rows L2 Z M WY HQ
theorem leans_succ (rs : List Lim) (s : Nat) (p : Int) : leans rs (s + 1) p = leans rs s p ++ if gy rs s = p then [s] else [] := by
  unfold leans
  rw [List.range_succ, List.filter_append]
  congr 1
  by_cases e : gy rs s = p
  · rw [if_pos e]
    simp [e]
  · rw [if_neg e]
    simp [e]
theorem feas_mono {rs : List Lim} {m n : Nat} {h : Int → Int} (f : Feas rs n h) (l : m ≤ n) : Feas rs m h := fun i r hi hr => f i r (by omega) hr
section
variable {P : Program} {w' : World} {K : PySem.W.Frag} {mg : Str → Option Value} {base : Heap}
def spSettle (C : Addr) : Sp := fun vs H Q _ => ∃ (o : Addr) (w : WyO) (ks : List Int) (h : Int → Int) (la : Int → Addr) (rs : List Lim) (s : Nat), vs = [.ref o] ∧ WyC C H o w ks h la rs s ∧ PlIn rs ks ∧
  (∀ p H' ns h' s', FrW o w ks la H H' → WyC C H' o w ks h' la rs s' → H p = none → H' p = some (.lst (lab rs ns)) → p ∉ mutW o w ks la → Ring rs ns → Q (.ref p) H') ∧
  (∀ H' h', FrW o w ks la H H' → WyC C H' o w ks h' la rs rs.length → Q .non H')
theorem ok_settle (T : Txt K mg) : FnOk P w' K mg base CX0 4 T.f_Ways_settle T.fd_Ways_settle ["self"] (spSettle T.C_Ways) := by
  have G_Ways_fall := ok_fall (P := P) (w' := w') (base := base) T
  refine T.F_Ways_settle.ok sc_Ways_settle (fun vs H Q E h => ?_) (fun cdv A outer s0 H vs Q E hr h => ?_)
  · obtain ⟨o, w, ks, hh, la, rs, s, rfl, _⟩ := h
    rfl
  · obtain ⟨o, w, ks, hh, la, rs, s, rfl, W, pl, hA, hB⟩ := h
    refine ⟨_, (pss_cons (ps_while PassesOwn.never (pt_cmpR op_lt (pe_fld (pv 0) rfl) (pe_callB call_len_seq (by rfl) T.m_len (by decide +kernel) (pa_cons (pe_fld (pv 0) rfl) pa_nil)) (nomark _)) (pss_cons (ps_set (i := 1) sc_Ways_settle.nd rfl (.inl rfl) (pe_meth (pv 0) T.cl_Ways T.M_Ways_fall G_Ways_fall (hr.mono (by first | decide | omega)) T.b_Ways_fall .nil pass0 (pa_cons (pe_fld (pv 0) rfl) pa_nil)))
 (pss_cons (ps_if (pt_cmpR op_notN (pv 1) pe_non (nomark _)) (pss_one (ps_ret (pv 1))) pss_nil)
 (pss_cons (ps_expr (pe_bm PySem.F.plainAttrs_list PySem.F.slot_list_append PySem.F.type_list_append mt_append (pe_dget (hu_of hr) (pe_fld (pv 0) rfl) (pe_ix ix_tup (pe_ix ix_list (pe_fld (pv 0) rfl) (pe_fld (pv 0) rfl) (fun _ _ => rfl)) pe_int (fun _ _ => rfl)) (fun _ _ => rfl)) (pa_cons (pe_fld (pv 0) rfl) pa_nil)))
 (pss_one (ps_fldaug (pv 0) pe_int in_add))))))
 (pss_one (ps_ret pe_non))), ?_⟩
    refine Z.w_start (σ' := [some (.ref o), none]) rfl ?_
    refine w_seq (w_while ?_)
    refine ⟨fun m σ H' => ∃ (x1 : Option V) (s : Nat) (h' : Int → Int), m = rs.length - s ∧ σ = [some (.ref o), x1] ∧ FrW o w ks la H H' ∧ WyC T.C_Ways H' o w ks h' la rs s, ⟨_, none, s, hh, rfl, rfl, .refl H, W⟩, ?_⟩
    rintro m σ H' ⟨x1, s, h', rfl, rfl, fr, W1⟩
    obtain ⟨us, l1, l2⟩ := W1.li
    walk_at "w"
    refine w_fldT T.cl_Ways T.n_Ways__settled W1.ob rfl ?_
    walk_at "w"
    refine w_fldT T.cl_Ways T.n_Ways__limits W1.ob rfl ?_
    walk_at "w"
    rw [l2.1]
    have hsl := W1.sl
    by_cases hlt : s < rs.length
    · refine Z.w_iteT (by omega) ?_
      refine ⟨fun σ' H' => ∃ m', m' < rs.length - s ∧ ∃ (x1 : Option V) (s : Nat) (h' : Int → Int), m' = rs.length - s ∧ σ' = [some (.ref o), x1] ∧ FrW o w ks la H H' ∧ WyC T.C_Ways H' o w ks h' la rs s, fun σ' H' h => h, ?_⟩
      have hrs : rs[s]? = some rs[s] := List.getElem?_eq_getElem hlt
      generalize rs[s] = r at *
      obtain ⟨t, g1, g2⟩ := l2.2 s r hrs
      walk_at "w"
      refine w_meth0 W1.ob rfl (by rfl) ?_
      walk_at "w"
      refine w_fldT T.cl_Ways T.n_Ways__settled W1.ob rfl ?_
      walk_at "w"
      refine ⟨o, w, ks, h', la, rs, s, r, rfl, W1, pl, hrs, fun p H2 ns s2 fp ep R => ?_, fun H2 h2 fr2 hd2 fe2 => ?_⟩
      · walk_at "w"
        refine hA p H2 ns h' s (fr.trans (.of s2)) (W1.same (fun b u _ => s2 b u) (TupS.of s2)) ?_ ep (fun z => ?_) R
        · cases e : H p with
          | none => rfl
          | some u =>
            exfalso
            by_cases hm : p ∈ mutW o w ks la
            · obtain ⟨u1, hu1, _⟩ := W1.has hm
              rw [fp] at hu1
              cases hu1
            · rw [fr p u hm e] at fp
              cases fp
        · obtain ⟨u1, hu1, _⟩ := W1.has z
          rw [fp] at hu1
          cases hu1
      · have nli : w.li ≠ w.hd := ne_ld l1 W1.hd
        have no : o ≠ w.hd := ne_ins W1.ob W1.hd (fun _ _ _ z => by cases z)
        have fr2' : FrW o w ks la H' H2 := fun b u n e => fr2 b u (fun z => n (by rw [z]; exact m_hd)) e
        have tp2 := W1.tupS fr2'
        have W2 : WyC T.C_Ways H2 o w ks h2 la rs s := by
          obtain ⟨ob, ⟨us', k1, k2⟩, hd, le, ln, inj, lll, dd, nd, k0, sl, fe, sz⟩ := W1
          exact ⟨fr2 _ _ no ob, ⟨us', fr2 _ _ (ne_ld k1 hd) k1, k2.tup tp2⟩, hd2, fr2 _ _ dd.symm le, fun p hp => fr2 _ _ (ne_ld (ln p hp) hd) (ln p hp), inj, lll, dd, nd, k0, sl, feas_mono fe2 (Nat.le_succ _), sz⟩
        have hsl2 : SqL K H2 w.li us := .inl (.inl (fr2 _ _ nli l1))
        have hat : atI us (s : Int) = some (.ref t) := atI_nat g1
        have g22 := tp2 _ _ g2
        unfold limT at g22
        have ky := (pl r (List.mem_of_getElem? hrs)).2
        have hln := W2.ln _ ky
        walk_at "w"
        refine Z.w_bm ?_
        walk_at "w"
        refine w_fldT T.cl_Ways T.n_Ways__leaning W2.ob rfl ?_
        walk_at "w"
        refine w_fldT T.cl_Ways T.n_Ways__limits W2.ob rfl ?_
        walk_at "w"
        refine w_fldT T.cl_Ways T.n_Ways__settled W2.ob rfl ?_
        walk_at "w"
        refine ⟨w.le, _, rfl, dget_lD W2.le ky, ?_⟩
        refine ⟨.inl ⟨rfl, _, .inl (.inl hln)⟩, ?_⟩
        walk_at "w"
        refine w_fldT T.cl_Ways T.n_Ways__settled W2.ob rfl ?_
        walk_at "w"
        have hlen : (leans rs s (ly r)).length ≤ s := by
          unfold leans
          exact Nat.le_trans (List.length_filter_le _ _) (by rw [List.length_range]; exact Nat.le_refl _)
        refine ⟨la (ly r), _, _, rfl, rfl, hln, ?_, ?_⟩
        · unfold iV
          rw [List.length_map]
          have := W1.sz.1
          exact Nat.lt_of_le_of_lt (show (leans rs s (ly r)).length ≤ 1000 by omega) (by decide)
        have e3 : iV (leans rs s (ly r)) ++ [V.int (s : Int)] = iV (leans rs (s + 1) (ly r)) := by
          rw [leans_succ, gy_at hrs, if_pos rfl]
          unfold iV
          rw [List.map_append]
          rfl
        rw [e3]
        have no2 : o ≠ la (ly r) := ne_ins W2.ob hln (fun _ _ _ z => by cases z)
        walk_at "w"
        try dsimp only
        refine w_fldaug ?_
        refine Z.w_var (v := V.ref o) rfl ⟨o, T.C_Ways, w.dx, w.fs s, .int (s : Int), rfl, by rw [upd_ne no2]; exact W2.ob, T.cl_Ways, T.n_Ways__settled, rfl, ?_⟩
        walk_at "w"
        refine ⟨(s : Int), 1, rfl, rfl, w.dx, w.fs s, by rw [upd_ne no2]; exact W2.ob, (show 4 < 1000 by decide), ?_⟩
        have efs : putF "_settled" (.int ((s : Int) + 1)) (w.fs s) = w.fs (s + 1) := rfl
        rw [efs]
        have sk : ∀ b u, b ≠ o → b ≠ la (ly r) → H2 b = some u → (upd (upd H2 (la (ly r)) (.lst (iV (leans rs (s + 1) (ly r))))) o (.ins T.C_Ways w.dx (w.fs (s + 1)))) b = some u := fun b u n1 n2 e => by
          rw [upd_ne n1, upd_ne n2]
          exact e
        have el : (upd (upd H2 (la (ly r)) (.lst (iV (leans rs (s + 1) (ly r))))) o (.ins T.C_Ways w.dx (w.fs (s + 1)))) (la (ly r)) = some (.lst (iV (leans rs (s + 1) (ly r)))) := by rw [upd_ne no2.symm, upd_same]
        have eo : (upd (upd H2 (la (ly r)) (.lst (iV (leans rs (s + 1) (ly r))))) o (.ins T.C_Ways w.dx (w.fs (s + 1)))) o = some (.ins T.C_Ways w.dx (w.fs (s + 1))) := upd_same
        generalize upd (upd H2 (la (ly r)) (.lst (iV (leans rs (s + 1) (ly r))))) o (.ins T.C_Ways w.dx (w.fs (s + 1))) = H3 at *
        have fr3 : FrW o w ks la H2 H3 := fun b u n e => sk b u (fun z => n (by rw [z]; exact m_o)) (fun z => n (by rw [z]; exact m_la ky)) e
        have tp3 := W2.tupS fr3
        have W3 : WyC T.C_Ways H3 o w ks h2 la rs (s + 1) := by
          obtain ⟨ob, ⟨us', k1, k2⟩, hd, le, ln, inj, lll, dd, nd, k0, sl, fe, sz⟩ := W2
          have n1 : w.li ≠ o := (ne_ins ob k1 (fun _ _ _ z => by cases z)).symm
          have n2 : w.hd ≠ o := (ne_ins ob hd (fun _ _ _ z => by cases z)).symm
          have n3 : w.le ≠ o := (ne_ins ob le (fun _ _ _ z => by cases z)).symm
          refine ⟨eo, ⟨us', sk _ _ n1 (lll _ ky).symm k1, k2.tup tp3⟩, sk _ _ n2 (ne_ld hln hd).symm hd, sk _ _ n3 (ne_ld hln le).symm le, fun p hp => ?_, inj, lll, dd, nd, k0, hlt, fe2, sz⟩
          by_cases e : p = ly r
          · rw [e]
            exact el
          · have hlp := ln p hp
            have n4 : la p ≠ o := (ne_ins ob hlp (fun _ _ _ z => by cases z)).symm
            rw [leans_succ, gy_at hrs, if_neg (fun z => e z.symm), List.append_nil]
            exact sk _ _ n4 (fun z => e (inj p hp _ ky z)) hlp
        exact ⟨_, by omega, _, s + 1, h2, rfl, rfl, (fr.trans fr2').trans fr3, W3⟩
    · refine Z.w_iteF (by omega) ?_
      walk_at "w"
      have es : s = rs.length := by omega
      rw [es] at W1
      exact hB H' h' fr W1
end
end L

namespace L
open PySem PySem.Spec PyProof.Rows L2 Z M WY HQ
theorem idx_spec : ∀ (ns : List Int) (x : Int), x ∈ ns → ns[ns.idxOf x]? = some x ∧ ∀ m z, m < ns.idxOf x → ns[m]? = some z → z ≠ x
  | [], x, h => absurd h (by simp)
  | n :: r, x, h => by
    rw [List.idxOf_cons]
    by_cases e : n = x
    · subst e
      simp
    · have hb : (n == x) = false := by simp [e]
      rw [hb]
      have hm : x ∈ r := by
        rcases List.mem_cons.mp h with a | a
        · exact absurd a.symm e
        · exact a
      obtain ⟨h1, h2⟩ := idx_spec r x hm
      refine ⟨by simpa using h1, fun m z hm2 hz => ?_⟩
      cases m with
      | zero =>
        have : n = z := by simpa using hz
        rw [← this]
        exact e
      | succ m => exact h2 m z (by simpa using hm2) (by simpa using hz)
section
variable {K : PySem.W.Frag} {H : Hp} {Q : VK}
theorem w_indexI {a : Addr} {ns : List Int} {x : Int} (hs : SqL K H a (ns.map V.int)) (hx : x ∈ ns) (q : Q (.int (ns.idxOf x : Nat)) H) : rIndex K (.ref a) [.int x] H Q := by
  obtain ⟨h1, h2⟩ := idx_spec ns x hx
  refine ⟨a, _, _, ns.idxOf x, .int x, rfl, rfl, hs, rfl, flat_ints ns, by rw [List.getElem?_map, h1]; rfl, by simp [eqV], fun m z' hm hz => ?_, q⟩
  rw [List.getElem?_map] at hz
  cases e : ns[m]? with
  | none => rw [e] at hz; cases hz
  | some y =>
    rw [e] at hz
    obtain rfl : V.int y = z' := Option.some.inj hz
    simp [eqV, h2 m y hm e]
theorem w_ninI {p : Addr} {x : Int} {ls : List Int} (h : SqL K H p (ls.map V.int)) (q : Q (.bl (!decide (x ∈ ls))) H) : rIn K true (.int x) (.ref p) H Q := w_opin (.inl h) rfl (flat_ints ls) (by rw [inV_int]; exact q)
end
def hV (ps : List Int) (h : Int → Int) : List V := ps.map fun p => V.int (h p)
theorem hV_at {ps : List Int} {h : Int → Int} {p : Int} (hp : p ∈ ps) : atI (hV ps h) (ps.idxOf p : Nat) = some (.int (h p)) := by
  refine atI_nat ?_
  unfold hV
  rw [List.getElem?_map, (idx_spec ps p hp).1]
  rfl
theorem hV_set {ps : List Int} (nd : ps.Nodup) {h : Int → Int} {p v : Int} (hp : p ∈ ps) : (hV ps h).set (ps.idxOf p) (.int v) = hV ps (fun q => if q = p then v else h q) := by
  have h1 := (idx_spec ps p hp).1
  refine List.ext_getElem? fun j => ?_
  unfold hV
  rw [List.getElem?_set, List.getElem?_map, List.getElem?_map, List.length_map]
  by_cases e : ps.idxOf p = j
  · subst e
    rw [if_pos rfl, if_pos (List.idxOf_lt_length_of_mem hp), h1]
    simp
  · rw [if_neg e]
    cases hj : ps[j]? with
    | none => rfl
    | some q =>
      have : q ≠ p := fun z => by
        subst z
        exact e ((List.getElem?_inj (List.idxOf_lt_length_of_mem hp) nd).mp (h1.trans hj.symm))
      simp [this]
def PlOf (rs : List Lim) (x : Int) : Prop := x = 0 ∨ ∃ r ∈ rs, x = lx r ∨ x = ly r
/-- a small list that holds all places -/
def Small (rs : List Lim) : Prop := ∃ ps0 : List Int, ps0.length < 64 ∧ (0 : Int) ∈ ps0 ∧ ∀ r ∈ rs, lx r ∈ ps0 ∧ ly r ∈ ps0
theorem small_len {rs : List Lim} (h : Small rs) {acc : List Int} (nd : acc.Nodup) (hm : ∀ x ∈ acc, PlOf rs x) : acc.length < 64 := by
  obtain ⟨ps0, h1, h2, h3⟩ := h
  have : acc ⊆ ps0 := fun x hx => by
    rcases hm x hx with rfl | ⟨r, hr, rfl | rfl⟩
    · exact h2
    · exact (h3 r hr).1
    · exact (h3 r hr).2
  exact Nat.lt_of_le_of_lt (List.Nodup.length_le_of_subset nd this) h1
section
variable {P : Program} {w' : World} {K : PySem.W.Frag} {mg : Str → Option Value} {base : Heap}
end
end L

namespace L
open PySem PySem.Spec PyProof.Rows L2 Z M WY HQ
section
variable {P : Program} {w' : World} {K : PySem.W.Frag} {mg : Str → Option Value} {base : Heap}
def spBF : Sp := fun vs H Q _ => ∃ (R p : Addr) (us : List V) (rs : List Lim) (ps : List Int), vs = [.ref R, .ref p] ∧ H R = some (.lst us) ∧ LimV H us rs ∧ H p = some (.lst (ps.map V.int)) ∧ ps.Nodup ∧ (∀ r ∈ rs, lx r ∈ ps ∧ ly r ∈ ps) ∧ ps.length < 64 ∧ ∀ (b : Bool) (H' : Hp), Same H H' → (b = true ↔ ∃ g, FeasL rs g) → Q (.bl b) H'
theorem ok_BF (T : Txt K mg) : FnOk P w' K mg base CX0 1 T.f_heights T.fd_heights ["_law_limits", "_law_places_here"] spBF := by
  refine T.F_heights.ok sc_heights (fun vs H Q E h => ?_) (fun cdv A outer s0 H vs Q E hr h => ?_)
  · obtain ⟨R, p, us, rs, ps, rfl, _⟩ := h
    rfl
  · obtain ⟨R, p, us, rs, ps, rfl, hR, hv, hp, nd, hpl, hln, h⟩ := h
    have hul := hv.1
    refine ⟨_, (pss_cons (ps_setLc (i := 2) (own := [("_law_place", 3)]) (g := gName 3) (tt := tYes) (by rfl) sc_heights.nd rfl rfl (sw_true rfl rfl rfl (by decide +kernel)) (pi_list (pv 1)) (blkOk_by (own := [("_law_place", 3)]) (N := N_heights) (sc := defScope s_heights) (by decide +kernel)) (fun _ _ _ _ _ => pg_name (i := 3) sc_heights.nd rfl (Or.inl rfl)) (fun _ _ _ _ _ => pts_nil) (fun _ _ _ _ _ => pe_int))
 (pss_cons (ps_for PassesOwn.never rfl (pi_range1 (by rfl) T.m_range (pa_cons (pe_op op_add (pe_callB call_len_seq (by rfl) T.m_len (by decide +kernel) (pa_cons (pv 1) pa_nil)) pe_int) pa_nil)) (pg_name (i := 4) sc_heights.nd rfl (.inl rfl)) (pss_cons (ps_set (i := 5) sc_heights.nd rfl (.inl rfl) pe_bl)
 (pss_cons (ps_for PassesOwn.never rfl (pi_list (pv 0)) (pg_name (i := 6) sc_heights.nd rfl (.inl rfl)) (pss_cons (ps_set (i := 7) sc_heights.nd rfl (.inl rfl) (pe_bm PySem.F.plainAttrs_list PySem.F.slot_list_index PySem.F.type_list_index mt_index (pv 1) (pa_cons (pe_ix ix_tup (pv 6) pe_int (fun _ _ => rfl)) pa_nil)))
 (pss_cons (ps_set (i := 8) sc_heights.nd rfl (.inl rfl) (pe_bm PySem.F.plainAttrs_list PySem.F.slot_list_index PySem.F.type_list_index mt_index (pv 1) (pa_cons (pe_ix ix_tup (pv 6) pe_int (fun _ _ => rfl)) pa_nil)))
 (pss_one (ps_if (pt_cmpR op_gt (pe_ix ix_list (pv 2) (pv 7) (fun _ _ => rfl)) (pe_op op_add (pe_ix ix_list (pv 2) (pv 8) (fun _ _ => rfl)) (pe_ix ix_tup (pv 6) pe_int (fun _ _ => rfl))) (nomark _)) (pss_cons (ps_asg (pe_op op_add (pe_ix ix_list (pv 2) (pv 8) (fun _ _ => rfl)) (pe_ix ix_tup (pv 6) pe_int (fun _ _ => rfl))) (pg_sub (pv 2) (pv 7) set_list))
 (pss_one (ps_set (i := 5) sc_heights.nd rfl (.inl rfl) pe_bl))) pss_nil)))))
 (pss_one (ps_if (pt_not (pt_val (pv 5))) (pss_one (ps_ret pe_bl)) pss_nil)))))
 (pss_one (ps_ret pe_bl)))), ?_⟩
    refine Z.w_start (σ' := [some (.ref R), some (.ref p), none, none, none, none, none, none, none]) rfl ?_
    walk_at "w"
    intro D hD
    have hSp : ∀ {H' : Hp}, Same H H' → SqL K H' p (ps.map V.int) := fun {H'} sm => .inl (.inl (sm _ _ hp))
    refine lc_list (K := K) (xs := ps.map V.int) (fun j H6 => Same H H6 ∧ j ≤ ps.length ∧ H6 D = some (.lst (hV (ps.take j) (fun _ => 0)))) ?_ ?_ ?_ ?_
    · exact ⟨same_of (Same.refl _) hD, Nat.zero_le _, upd_same⟩
    · rintro j H6 hj ⟨s6, _⟩
      exact hSp s6
    · rintro j x H6 hx ⟨s6, _, e6⟩
      have hj : j < ps.length := by
        have := (List.getElem?_eq_some_iff.mp hx).1
        rwa [List.length_map] at this
      rw [List.getElem?_map, List.getElem?_eq_getElem hj] at hx
      obtain rfl := Option.some.inj hx
      refine Z.w_gname (σ' := [some (.ref R), some (.ref p), none, some (.int ps[j]), none, none, none, none, none]) rfl ⟨rfl, ?_⟩
      walk_at "w"
      refine ⟨_, e6, ?_, same_mut s6 hD, hj, ?_⟩
      · unfold hV
        rw [List.length_map, List.length_take]
        exact Nat.lt_of_le_of_lt (Nat.min_le_left _ _) (Nat.lt_trans (show j < 100 by omega) (by decide))
      · rw [upd_same, List.take_add_one, List.getElem?_eq_getElem hj]
        unfold hV
        rw [List.map_append]
        rfl
    · rintro H6 ⟨s6, _, e6⟩
      rw [List.length_map, List.take_length] at e6
      have hSp6 := hSp s6
      have hpsl : (ps.map V.int).length = ps.length := lst_len
      walk_at "w"
      refine ⟨by omega, by omega, ?_⟩
      refine for_range (fun t σ H' => ∃ (x5 x6 x7 x8 x4 : Option V), σ = [some (.ref R), some (.ref p), some (.ref D), none, x4, x5, x6, x7, x8] ∧ Same H H' ∧ H' D = some (.lst (hV ps (turns rs t))) ∧ (∀ t', t' < t → ¬ FeasL rs (turns rs t')) ∧ t ≤ ps.length + 1) ?_ ?_ ?_
      · exact ⟨none, none, none, none, none, rfl, s6, e6, fun t' z => absurd z (by omega), Nat.zero_le _⟩
      · rintro t σ H' ht ⟨x5, x6, x7, x8, x4, rfl, sm, eD, hno, _⟩
        have ht2 : t < ps.length + 1 := by omega
        walk_at "w"
        refine ⟨⟨_, .inl (.inl (sm _ _ hR))⟩, ?_⟩
        refine for_list (K := K) (xs := us) (fun j σ H2 => ∃ (x6 x7 x8 : Option V) (b : Bool) (hc : Int → Int), σ = [some (.ref R), some (.ref p), some (.ref D), none, some (.int (0 + (t : Int))), some (.bl b), x6, x7, x8] ∧ Same H H2 ∧ H2 D = some (.lst (hV ps hc)) ∧ hc = (rs.take j).foldl stp (turns rs t) ∧ (b = false → hc = turns rs t ∧ ∀ r ∈ rs.take j, turns rs t (lx r) ≤ turns rs t (ly r) + lk r) ∧ (b = true → ¬ FeasL rs (turns rs t))) ?_ ?_ ?_ ?_
        · exact ⟨_, _, _, false, turns rs t, rfl, sm, eD, rfl, fun _ => ⟨rfl, fun r hr => absurd hr (by simp)⟩, fun z => absurd z (by decide)⟩
        · rintro j σ H2 hj ⟨x6, x7, x8, b, hc, rfl, sm2, _⟩
          exact .inl (.inl (sm2 _ _ hR))
        · rintro j v σ H2 hv2 ⟨x6, x7, x8, b, hc, rfl, sm2, eD2, ehc, hb0, hb1⟩
          have hju := (List.getElem?_eq_some_iff.mp hv2).1
          have hj : j < rs.length := by rw [← hul]; exact hju
          have hri : rs[j]? = some rs[j] := List.getElem?_eq_getElem hj
          obtain ⟨tt, k1, k2⟩ := hv.2 j _ hri
          have hmr : rs[j] ∈ rs := List.getElem_mem hj
          have htk : rs.take (j + 1) = rs.take j ++ [rs[j]] := by rw [List.take_add_one, hri]; rfl
          generalize rs[j] = r at *
          rw [hv2] at k1
          obtain rfl := Option.some.inj k1
          have k2' := sm2 _ _ k2
          unfold limT at k2'
          obtain ⟨kx, ky⟩ := hpl r hmr
          have hS2 := hSp sm2
          have aX := hV_at (h := hc) kx
          have aY := hV_at (h := hc) ky
          have hSD : SqL K H2 D (hV ps hc) := .inl (.inl eD2)
          walk_at "w"
          refine Z.w_bm ?_
          walk_at "w"
          refine ⟨.inl ⟨rfl, _, hS2⟩, ?_⟩
          walk_at "w"
          refine w_indexI hS2 kx ?_
          walk_at "w"
          refine Z.w_bm ?_
          walk_at "w"
          refine ⟨.inl ⟨rfl, _, hS2⟩, ?_⟩
          walk_at "w"
          refine w_indexI hS2 ky ?_
          walk_at "w"
          have hstp : ∀ hc' : Int → Int, hc' = stp hc r → hc' = (rs.take (j + 1)).foldl stp (turns rs t) := fun hc' e => by
            rw [htk, List.foldl_append, ← ehc, e]
            rfl
          by_cases hgt : hc (lx r) > hc (ly r) + lk r
          · refine Z.w_iteT hgt ?_
            walk_at "w"
            refine ⟨D, _, _, ps.idxOf (lx r), rfl, rfl, eD2, ?_, ?_⟩
            · unfold ixN hV
              rw [List.length_map]
              have := List.idxOf_lt_length_of_mem kx
              rw [if_pos (by omega), if_pos (by omega)]
              rfl
            · rw [hV_set nd kx]
              walk_at "w"
              refine ⟨_, _, _, true, _, rfl, same_mut sm2 hD, upd_same, hstp _ ?_, fun z => (by cases z), fun _ => ?_⟩
              · funext q
                unfold stp
                by_cases e : q = lx r
                · rw [if_pos e, if_pos ⟨hgt, e⟩]
                · rw [if_neg e, if_neg (fun z => e z.2)]
              · cases b with
                | true => exact hb1 rfl
                | false =>
                  obtain ⟨e1, _⟩ := hb0 rfl
                  intro hf
                  have := hf r hmr
                  rw [e1] at hgt
                  omega
          · refine Z.w_iteF hgt ?_
            walk_at "w"
            refine ⟨_, _, _, b, hc, rfl, sm2, eD2, hstp _ ?_, fun hb => ?_, hb1⟩
            · funext q
              unfold stp
              rw [if_neg (fun z => hgt z.1)]
            · obtain ⟨e1, e2⟩ := hb0 hb
              refine ⟨e1, fun r' hr' => ?_⟩
              rw [htk] at hr'
              rcases List.mem_append.mp hr' with z | z
              · exact e2 r' z
              · rw [List.mem_singleton.mp z]
                rw [e1] at hgt
                omega
        · rintro σ H2 ⟨x6, x7, x8, b, hc, rfl, sm2, eD2, ehc, hb0, hb1⟩
          rw [hul, List.take_length] at ehc hb0
          walk_at "w"
          cases b with
          | false =>
            obtain ⟨_, e2⟩ := hb0 rfl
            walk_at "w"
            exact h true H2 sm2 ⟨fun _ => ⟨_, e2⟩, fun _ => rfl⟩
          | true =>
            walk_at "w"
            refine ⟨_, _, _, _, _, rfl, sm2, by rw [eD2, ehc]; rfl, fun t' ht' => ?_, ht2⟩
            by_cases e : t' = t
            · rw [e]
              exact hb1 rfl
            · exact hno t' (by omega)
      · rintro σ H' ⟨x5, x6, x7, x8, x4, rfl, sm, eD, hno, _⟩
        walk_at "w"
        refine h false H' sm ⟨(fun z => absurd z (by decide)), fun ⟨g, hg⟩ => ?_⟩
        obtain ⟨t, ht, hf⟩ := settles hg hpl
        exact absurd hf (hno t (by omega))
end
end L

namespace L
open PySem PySem.Spec PyProof.Rows L2 Z M WY HQ
/-- a ring as limits -/
structure RingQ (rs qs : List Lim) : Prop where
  ne : qs ≠ []
  mem : ∀ q ∈ qs, q ∈ rs
  nd : (qs.map lx).Nodup
  link : ∀ (j : Nat) (a b : Lim), qs[j]? = some a → qs[(j + 1) % qs.length]? = some b → ly a = lx b
  sum : (qs.map lk).sum < 0
theorem ringQ_of {rs : List Lim} {ns : List Nat} (R : Ring rs ns) : ∃ qs, RingQ rs qs ∧ lab rs ns = qs.map fun q => V.int (ll q) := by
  have key : ∀ i ∈ ns, ∃ q, rs[i]? = some q := fun i hi => ⟨_, List.getElem?_eq_getElem (R.at' i hi)⟩
  let f : Nat → Lim := fun i => (rs[i]?).getD (0, 0, 0, 0)
  have hf : ∀ i ∈ ns, rs[i]? = some (f i) := fun i hi => by
    obtain ⟨q, hq⟩ := key i hi
    show rs[i]? = some ((rs[i]?).getD (0, 0, 0, 0))
    rw [hq]
    rfl
  have ex : (ns.map f).map lx = ns.map (gx rs) := by
    rw [List.map_map]
    exact List.map_congr_left fun i hi => (gx_at (hf i hi)).symm
  have ek : (ns.map f).map lk = ns.map (gk rs) := by
    rw [List.map_map]
    exact List.map_congr_left fun i hi => (gk_at (hf i hi)).symm
  refine ⟨ns.map f, ⟨?_, fun q hq => ?_, by rw [ex]; exact R.nd, fun j a b ha hb => ?_, by rw [ek]; exact R.sum⟩, ?_⟩
  · intro z
    exact R.ne (List.map_eq_nil_iff.mp z)
  · obtain ⟨i, hi, rfl⟩ := List.mem_map.mp hq
    exact List.mem_of_getElem? (hf i hi)
  · rw [List.length_map] at hb
    rw [List.getElem?_map] at ha hb
    cases e1 : ns[j]? with
    | none => rw [e1] at ha; cases ha
    | some i =>
      cases e2 : ns[(j + 1) % ns.length]? with
      | none => rw [e2] at hb; cases hb
      | some i' =>
        rw [e1] at ha
        rw [e2] at hb
        obtain rfl := Option.some.inj ha
        obtain rfl := Option.some.inj hb
        have := R.link j i i' e1 e2
        rwa [gy_at (hf i (List.mem_of_getElem? e1)), gx_at (hf i' (List.mem_of_getElem? e2))] at this
  · unfold lab
    rw [List.map_map]
    exact List.map_congr_left fun i hi => by
      show V.int (gl rs i) = V.int (ll (f i))
      rw [gl_at (hf i hi)]
def LabD (rs : List Lim) : Prop := ∀ (i j : Nat) (a b : Lim), rs[i]? = some a → rs[j]? = some b → ll a = ll b → i = j
theorem ringQ_len {rs qs : List Lim} (R : RingQ rs qs) : qs.length ≤ rs.length := by
  have h1 : qs.Nodup := List.Pairwise.of_map lx (fun a b h z => h (congrArg _ z)) R.nd
  exact List.Nodup.length_le_of_subset h1 R.mem
section
variable {P : Program} {w' : World} {K : PySem.W.Frag} {mg : Str → Option Value} {base : Heap}
def spLring : Sp := fun vs H Q _ => ∃ (t R : Addr) (us : List V) (rs qs : List Lim), vs = [.ref t, .ref R] ∧ H t = some (.lst (qs.map fun q => V.int (ll q))) ∧ H R = some (.lst us) ∧ LimV H us rs ∧ rs.length ≤ 1000 ∧ LabD rs ∧ RingQ rs qs ∧ ∀ H', Same H H' → Q (.bl true) H'
theorem w_inI2 {p : Addr} {x : Int} {ls : List Int} {H : Hp} {Q : VK} (h : SqL K H p (ls.map V.int)) (q : Q (.bl (decide (x ∈ ls))) H) : rIn K false (.int x) (.ref p) H Q := w_opin (.inl h) rfl (flat_ints ls) (by rw [inV_int]; exact q)
theorem w_isi_isi {a : Int} {H : Hp} {Q : VK} (q : Q (.bl true) H) : rIsi K [.int a, .ty "int"] H Q := Z.w_isi_ii q
theorem ok_Lring (T : Txt K mg) : FnOk P w' K mg base CX0 2 T.f_ring T.fd_ring ["_law_told", "_law_rows"] spLring := by
  have G_whole := ok_whole (P := P) (w := w') (base := base) T
  refine T.F_ring.ok sc_ring (fun vs H Q E h => ?_) (fun cdv A outer s0 H vs Q E hr h => ?_)
  · obtain ⟨t, R, us, rs, qs, rfl, _⟩ := h
    rfl
  · obtain ⟨t, R, us, rs, qs, rfl, ht, hR, hv, hz, hld, RQ, h⟩ := h
    have hul := hv.1
    have hql := ringQ_len RQ
    have hqpos : 0 < qs.length := List.length_pos_iff.mpr RQ.ne
    have htl : (qs.map fun q => V.int (ll q)).length = qs.length := List.length_map _
    refine ⟨_, (pss_cons (ps_if (PW.pt (pw_or (pt_not (pt_val (pe_callB call_isi (by rfl) T.m_isinstance (by decide +kernel) (pa_cons (pv 0) (pa_cons (pe_bltn (v := .ty "list") (by rfl) T.m_list (by decide +kernel) rfl) pa_nil))))) (pw_or1 (pt_cmpR op_eq (pe_callB call_len_seq (by rfl) T.m_len (by decide +kernel) (pa_cons (pv 0) pa_nil)) pe_int (nomark _))))) (pss_one (ps_ret pe_bl)) pss_nil)
 (pss_cons (ps_set (i := 2) sc_ring.nd rfl (.inl rfl) pe_dnewK)
 (pss_cons (ps_for PassesOwn.never rfl (pi_list (pv 1)) (pg_name (i := 3) sc_ring.nd rfl (.inl rfl)) (pss_one (ps_dput (hu_of hr) (pv 2) (pe_ix ix_tup (pv 3) pe_int (fun _ _ => rfl)) (pv 3) rfl)))
 (pss_cons (ps_set (i := 4) sc_ring.nd rfl (.inl rfl) (pe_lst pa_nil))
 (pss_cons (ps_for PassesOwn.never rfl (pi_list (pv 0)) (pg_name (i := 5) sc_ring.nd rfl (.inl rfl)) (pss_cons (ps_if (PW.pt (pw_or (pt_not (pt_val (pe_call G_whole (hr.mono (by first | decide | omega)) (by rfl) T.g_whole T.F_whole.kp T.b_whole .nil pass0 (pa_cons (pv 5) pa_nil)))) (pw_or1 (pt_cmp (pc_dnotin (hu_of hr) (pv 5) (pv 2)))))) (pss_one (ps_ret pe_bl)) pss_nil)
 (pss_one (ps_expr (pe_bm PySem.F.plainAttrs_list PySem.F.slot_list_append PySem.F.type_list_append mt_append (pv 4) (pa_cons (pe_dget (hu_of hr) (pv 2) (pv 5) (fun _ _ => rfl)) pa_nil))))))
 (pss_cons (ps_setLc (i := 6) (own := [("_law_row", 3)]) (g := gName 3) (tt := tYes) (by rfl) sc_ring.nd rfl rfl (sw_true rfl rfl rfl (by decide +kernel)) (pi_list (pv 4)) (blkOk_by (own := [("_law_row", 3)]) (N := N_ring) (sc := defScope s_ring) (by decide +kernel)) (fun _ _ _ _ _ => pg_name (i := 3) sc_ring.nd rfl (Or.inl rfl)) (fun _ _ _ _ _ => pts_nil) (fun _ _ _ _ _ => (pe_ix (show IxR _ (rIxT K) from ix_tup) (pv 3) pe_int (fun _ _ => rfl))))
 (pss_cons (ps_set (i := 7) sc_ring.nd rfl (.inl rfl) pe_int)
 (pss_cons (ps_for PassesOwn.never rfl (pi_range1 (by rfl) T.m_range (pa_cons (pe_callB call_len_seq (by rfl) T.m_len (by decide +kernel) (pa_cons (pv 4) pa_nil)) pa_nil)) (pg_name (i := 8) sc_ring.nd rfl (.inl rfl)) (pss_cons (ps_if (PW.pt (pw_or (pt_cmpR op_in_seq (pe_ix ix_list (pv 6) (pv 8) (fun _ _ => rfl)) (pe_slice sl_list (pv 6) po_none (po_some (pv 8))) rfl) (pw_or1 (pt_cmpR op_ne (pe_ix ix_tup (pe_ix ix_list (pv 4) (pv 8) (fun _ _ => rfl)) pe_int (fun _ _ => rfl)) (pe_ix ix_list (pv 6) (pe_op op_mod (pe_callTy call_int1 (by rfl) T.m_int (by decide +kernel) (pa_cons (pe_op op_add (pv 8) pe_int) pa_nil)) (pe_callB call_len_seq (by rfl) T.m_len (by decide +kernel) (pa_cons (pv 4) pa_nil))) (fun _ _ => rfl)) (nomark _))))) (pss_one (ps_ret pe_bl)) pss_nil)
 (pss_one (ps_set (i := 7) sc_ring.nd rfl (.inl rfl) (pe_op op_add (pv 7) (pe_ix ix_tup (pe_ix ix_list (pv 4) (pv 8) (fun _ _ => rfl)) pe_int (fun _ _ => rfl)))))))
 (pss_one (ps_ret (pe_cmpR op_lt (pv 7) pe_int (nomark _)))))))))))), ?_⟩
    refine Z.w_start (σ' := [some (.ref t), some (.ref R), none, none, none, none, none, none, none]) rfl ?_
    walk_at "w"
    rename_i D fD
    have s1 := same_of (Same.refl H) fD (o := .dK [])
    have eD : (upd H D (.dK [])) D = some (.dK []) := upd_same
    generalize upd H D (.dK []) = H1 at *
    refine for_list (K := K) (xs := us) (fun i σ H' => ∃ (x3 : Option V) (kvs : List (Key × V)), σ = [some (.ref t), some (.ref R), some (.ref D), x3, none, none, none, none, none] ∧ Same H H' ∧ H' D = some (.dK kvs) ∧ kvs.length ≤ i ∧ i ≤ us.length ∧ ∀ (j : Nat) (a : Lim), j < i → rs[j]? = some a → valV kvs (Sum.inl (ll a)) = us[j]?) ?_ ?_ ?_ ?_
    · exact ⟨none, [], rfl, s1, eD, Nat.le_refl _, Nat.zero_le _, fun j a hj => absurd hj (by omega)⟩
    · rintro i σ H' hi ⟨x3, kvs, rfl, sm, _⟩
      exact .inl (.inl (sm _ _ hR))
    · rintro i v σ H' hv2 ⟨x3, kvs, rfl, sm, eD', hkl, _, htab⟩
      have hiu := (List.getElem?_eq_some_iff.mp hv2).1
      have hi : i < rs.length := by rw [← hul]; exact hiu
      have hri : rs[i]? = some rs[i] := List.getElem?_eq_getElem hi
      obtain ⟨tt, k1, k2⟩ := hv.2 i _ hri
      generalize rs[i] = r at *
      have hv3 := hv2
      rw [hv2] at k1
      obtain rfl := Option.some.inj k1
      have k2' := sm _ _ k2
      unfold limT at k2'
      walk_at "w"
      refine ⟨D, _, rfl, DPut.k (k := Sum.inl (ll r)) eD' (Nat.lt_of_le_of_lt hkl (Nat.lt_of_lt_of_le (show i < 1001 by omega) (by decide))), ?_⟩
      refine ⟨_, _, rfl, same_mut sm fD, upd_same, Nat.le_trans (length_putK _ _ _) (by omega), hiu, fun j a hj ha => ?_⟩
      rw [valV_put]
      by_cases e : ll a = ll r
      · have hji := hld j i a r ha hri e
        subst hji
        rw [if_pos (by rw [e]), hv3]
      · rw [if_neg (fun z => e (Sum.inl.inj z))]
        have : j ≠ i := fun z => by
          subst z
          rw [hri] at ha
          obtain rfl := Option.some.inj ha
          exact e rfl
        exact htab j a (by omega) ha
    · rintro σ H' ⟨x3, kvs, rfl, sm, eD', hkl, _, htab⟩
      rw [hul] at htab
      have hlook : ∀ q ∈ qs, ∃ tt, valV kvs (Sum.inl (ll q)) = some (.ref tt) ∧ H tt = some (.tup (limT q)) := fun q hq => by
        obtain ⟨j, hj⟩ := List.mem_iff_getElem?.mp (RQ.mem q hq)
        obtain ⟨tt, k1, k2⟩ := hv.2 j q hj
        exact ⟨tt, by rw [htab j q (List.getElem?_eq_some_iff.mp hj).1 hj, k1], k2⟩
      walk_at "w"
      rename_i Wk fW
      have fW0 := fresh_of1 sm fW
      have s2 := same_of sm fW (o := .lst [])
      have nDW : D ≠ Wk := ne_of_none eD' fW
      have eDW : (upd H' Wk (.lst [])) D = some (.dK kvs) := by rw [upd_ne nDW]; exact eD'
      have eW : (upd H' Wk (.lst [])) Wk = some (.lst []) := upd_same
      generalize upd H' Wk (.lst []) = H2 at *
      refine ⟨⟨_, .inl (.inl (s2 _ _ ht))⟩, ?_⟩
      refine for_list (K := K) (xs := qs.map fun q => V.int (ll q)) (fun j σ H3 => ∃ (x5 : Option V) (ws : List V), σ = [some (.ref t), some (.ref R), some (.ref D), x3, some (.ref Wk), x5, none, none, none] ∧ Same H H3 ∧ H3 D = some (.dK kvs) ∧ H3 Wk = some (.lst ws) ∧ LimV H ws (qs.take j) ∧ j ≤ qs.length) ?_ ?_ ?_ ?_
      · exact ⟨none, [], rfl, s2, eDW, eW, LimV.nil, Nat.zero_le _⟩
      · rintro j σ H3 hj ⟨x5, ws, rfl, s3, _⟩
        exact .inl (.inl (s3 _ _ ht))
      · rintro j v σ H3 hvj ⟨x5, ws, rfl, s3, eD3, eW3, hlv, _⟩
        have hj : j < qs.length := by
          have := (List.getElem?_eq_some_iff.mp hvj).1
          rwa [List.length_map] at this
        rw [List.getElem?_map, List.getElem?_eq_getElem hj] at hvj
        obtain rfl := Option.some.inj hvj
        have hqm : qs[j] ∈ qs := List.getElem_mem hj
        have htk : qs.take (j + 1) = qs.take j ++ [qs[j]] := by rw [List.take_add_one, List.getElem?_eq_getElem hj]; rfl
        generalize qs[j] = q at *
        obtain ⟨tt, m1, m2⟩ := hlook q hqm
        walk_at "w"
        refine ⟨D, _, rfl, DGet.k (k := Sum.inl (ll q)) eD3, ?_⟩
        rw [m1]
        simp only [Option.isSome_some]
        walk_at "w"
        refine Z.w_bm ?_
        walk_at "w"
        refine ⟨.inl ⟨rfl, _, .inl (.inl eW3)⟩, ?_⟩
        walk_at "w"
        refine ⟨D, .ref tt, rfl, ?_, ?_⟩
        · have := DGet.k (k := Sum.inl (ll q)) eD3
          rw [m1] at this
          exact this
        walk_at "w"
        refine ⟨Wk, _, _, rfl, rfl, eW3, ?_, ?_⟩
        · rw [hlv.1, List.length_take]
          exact Nat.lt_of_le_of_lt (Nat.min_le_left _ _) (Nat.lt_of_lt_of_le (show j < 1001 by omega) (by decide))
        · refine ⟨_, ws ++ [.ref tt], rfl, same_mut s3 fW0, by rw [upd_ne nDW]; exact eD3, upd_same, ?_, hj⟩
          rw [htk]
          exact hlv.snoc m2
      · rintro σ H3 ⟨x5, ws, rfl, s3, eD3, eW3, hlv, _⟩
        rw [List.length_map, List.take_length] at hlv
        have hwl := hlv.1
        walk_at "w"
        intro F fF
        have fF0 := fresh_of1 s3 fF
        have nWF : Wk ≠ F := ne_of_none eW3 fF
        refine lc_list (K := K) (xs := ws) (fun j H4 => Same H3 H4 ∧ j ≤ qs.length ∧ H4 F = some (.lst ((qs.take j).map fun q => V.int (lx q)))) ?_ ?_ ?_ ?_
        · exact ⟨same_of (Same.refl _) fF, Nat.zero_le _, upd_same⟩
        · rintro j H4 hj ⟨s4, _⟩
          exact .inl (.inl (s4 _ _ eW3))
        · rintro j v H4 hvj ⟨s4, _, e4⟩
          have hj : j < qs.length := by rw [← hwl]; exact (List.getElem?_eq_some_iff.mp hvj).1
          have hqj : qs[j]? = some qs[j] := List.getElem?_eq_getElem hj
          obtain ⟨tt, k1, k2⟩ := hlv.2 j _ hqj
          rw [hvj] at k1
          obtain rfl := Option.some.inj k1
          have k2' := (s3.trans s4) _ _ k2
          unfold limT at k2'
          refine Z.w_gname (σ' := [some (.ref t), some (.ref R), some (.ref D), some (.ref tt), some (.ref Wk), x5, none, none, none]) rfl ⟨rfl, ?_⟩
          walk_at "w"
          refine ⟨_, e4, ?_, same_mut s4 fF, hj, ?_⟩
          · rw [List.length_map, List.length_take]
            exact Nat.lt_of_le_of_lt (Nat.min_le_left _ _) (Nat.lt_of_lt_of_le (show j < 1001 by omega) (by decide))
          · rw [upd_same, List.take_add_one, hqj, List.map_append]
            rfl
        · rintro H4 ⟨s4, _, e4⟩
          rw [hwl, List.take_length] at e4
          have s34 : Same H H4 := s3.trans s4
          have eW4 := s4 _ _ eW3
          have hlv4 := hlv.tup (TupS.of s34)
          have hSF : SqL K H4 F ((qs.map lx).map V.int) := by rw [List.map_map]; exact .inl (.inl e4)
          have hSF2 : SqL K H4 F (qs.map fun q => V.int (lx q)) := .inl (.inl e4)
          have hfl : (qs.map fun q => V.int (lx q)).length = qs.length := List.length_map _
          walk_at "w"
          rw [hwl]
          refine ⟨by omega, by omega, ?_⟩
          have en : ((qs.length : Int)).toNat = qs.length := by omega
          rw [en]
          refine for_range (fun k σ H5 => ∃ (x8 : Option V), σ = [some (.ref t), some (.ref R), some (.ref D), x3, some (.ref Wk), x5, some (.ref F), some (.int ((qs.take k).map lk).sum), x8] ∧ Same H4 H5 ∧ k ≤ qs.length) ?_ ?_ ?_
          · exact ⟨none, rfl, Same.refl _, Nat.zero_le _⟩
          · rintro k σ H5 hk ⟨x8, rfl, s5, _⟩
            have hk2 : k < qs.length := by omega
            have ek : (0 : Int) + (k : Int) = (k : Int) := by omega
            rw [ek]
            have hqk : qs[k]? = some qs[k] := List.getElem?_eq_getElem hk2
            have hmod : (k + 1) % qs.length < qs.length := Nat.mod_lt _ hqpos
            have hqn : qs[(k + 1) % qs.length]? = some qs[(k + 1) % qs.length] := List.getElem?_eq_getElem hmod
            have hlink := RQ.link k _ _ hqk hqn
            have htk : (qs.take (k + 1)).map lk = (qs.take k).map lk ++ [lk qs[k]] := by rw [List.take_add_one, hqk, List.map_append]; rfl
            have hnx : qs.map (fun q => V.int (lx q)) = qs.map (fun q => V.int (lx q)) := rfl
            have hnin : lx qs[k] ∉ (qs.take k).map lx := fun z => by
              obtain ⟨q', hq', hz'⟩ := List.mem_map.mp z
              obtain ⟨j, hj⟩ := List.mem_iff_getElem?.mp hq'
              rw [List.getElem?_take] at hj
              split at hj
              · rename_i hjk
                have e1 : (qs.map lx)[j]? = some (lx qs[k]) := by rw [List.getElem?_map, hj]; exact congrArg some hz'
                have e2 : (qs.map lx)[k]? = some (lx qs[k]) := by rw [List.getElem?_map, hqk]; rfl
                have := (List.getElem?_inj (by rw [List.length_map]; omega) RQ.nd).mp (e1.trans e2.symm)
                omega
              · cases hj
            obtain ⟨tt, k1, k2⟩ := hlv4.2 k _ hqk
            have hatk : atI ws (k : Int) = some (.ref tt) := atI_nat k1
            have hatF : atI (qs.map fun q => V.int (lx q)) (k : Int) = some (.int (lx qs[k])) := atI_nat (by rw [List.getElem?_map, hqk]; rfl)
            have hatN : atI (qs.map fun q => V.int (lx q)) (((k + 1) % qs.length : Nat) : Int) = some (.int (lx qs[(k + 1) % qs.length])) := atI_nat (by rw [List.getElem?_map, hqn]; rfl)
            have emod : ((k : Int) + 1) % (qs.length : Int) = (((k + 1) % qs.length : Nat) : Int) := (Int.natCast_emod (k + 1) qs.length).symm
            generalize lx qs[(k + 1) % qs.length] = nxt at *
            generalize qs[k] = q at *
            have k25 := s5 _ _ k2
            unfold limT at k25
            have hSF5 : SqL K H5 F (qs.map fun q => V.int (lx q)) := Evl.ex_l s5 hSF2
            have hSW5 : SqL K H5 Wk ws := .inl (.inl (s5 _ _ eW4))
            walk_at "w"
            refine w_slTo (s := k) hSF5 (by rw [hfl]; omega) fun p6 f6 => ?_
            have e6 : (qs.map fun q => V.int (lx q)).take k = ((qs.take k).map lx).map V.int := by rw [List.map_map, List.map_take]; rfl
            have s6 := same_of (Same.refl H5) f6 (o := .lst ((qs.map fun q => V.int (lx q)).take k))
            have ep6 : (upd H5 p6 (.lst ((qs.map fun q => V.int (lx q)).take k))) p6 = some (.lst (((qs.take k).map lx).map V.int)) := by rw [upd_same, e6]
            generalize upd H5 p6 (.lst ((qs.map fun q => V.int (lx q)).take k)) = H6 at *
            have hSW6 : SqL K H6 Wk ws := Evl.ex_l s6 hSW5
            have hSF6 : SqL K H6 F (qs.map fun q => V.int (lx q)) := Evl.ex_l s6 hSF5
            have k26 := s6 _ _ k25
            walk_at "w"
            refine w_inI2 (.inl (.inl ep6)) ?_
            rw [decide_eq_false hnin]
            walk_at "w"
            rw [hwl, emod]
            walk_at "w"
            have hsum : ((qs.take k).map lk).sum + lk q = ((qs.take (k + 1)).map lk).sum := by
              rw [htk, List.sum_append]
              simp
            rw [hsum]
            exact ⟨_, rfl, s5.trans s6, hk2⟩
          · rintro σ H5 ⟨x8, rfl, s5, _⟩
            rw [List.take_length]
            have := RQ.sum
            walk_at "w"
            rw [decide_eq_true RQ.sum]
            exact h H5 (s34.trans s5)
end
end L


namespace L
open PySem PySem.Spec PyProof.Rows L2 Z M WY HQ
section
variable {K : PySem.W.Frag} {H : Hp} {Q : VK}
theorem dps {H : Hp} : ∀ ns : List Int, DpAll K H (ns.map V.int) (ns.map PyData.int)
  | [] => .nil
  | n :: ns => .cons (.int n) (dps ns)
theorem lay_ints : ∀ ns : List Int, PyData.canLayAll0 (ns.map PyData.int) = true
  | [] => rfl
  | n :: ns => by
    rw [List.map_cons, PyData.canLayAll0, lay_ints ns]
    rfl
theorem dep_ints : ∀ ns : List Int, PyData.depthAll (ns.map PyData.int) ≤ 1
  | [] => by simp [PyData.depthAll]
  | n :: ns => by
    have := dep_ints ns
    simp only [List.map_cons, PyData.depthAll, PyData.depth]
    omega
theorem shp_ints (ns : List Int) : SeqAt.shaped (.list (ns.map PyData.int)) = true := by
  have h1 := lay_ints ns
  have h2 := dep_ints ns
  unfold SeqAt.shaped
  simp [PyData.canLay0, PyData.depth, h1]
  omega
theorem eqv_ints : ∀ ns : List Int, PyData.eqvAll (ns.map PyData.int) (ns.map PyData.int) = true
  | [] => by simp [PyData.eqvAll]
  | n :: ns => by
    rw [List.map_cons, PyData.eqvAll, eqv_ints ns]
    simp [PyData.eqv]
theorem ne_ints {a b : Addr} {ns : List Int} (ha : SqL K H a (ns.map V.int)) (hb : SqL K H b (ns.map V.int)) (q : Q (.bl false) H) : rNeD K (.ref a) (.ref b) H Q :=
  ⟨.list (ns.map .int), .list (ns.map .int), .lst ha (dps ns), .lst hb (dps ns), shp_ints ns, shp_ints ns, by
    rw [show PyData.eqv (.list (ns.map PyData.int)) (.list (ns.map PyData.int)) = true from by rw [PyData.eqv]; exact eqv_ints ns]
    exact q⟩
theorem w_isi_dd {p : Addr} {kvs : List (Key × V)} (h : H p = some (.dK kvs)) (q : Q (.bl true) H) : rIsi K [.ref p, .ty "dict"] H Q := w_isi (.ty _) (.base (.dK h)) (kit_ty (by decide +kernel)) q
end
theorem sorted_eq : ∀ {as bs : List Int}, as.Pairwise (· ≤ ·) → bs.Pairwise (· ≤ ·) → as.Nodup → bs.Nodup → (∀ x, x ∈ as ↔ x ∈ bs) → as = bs
  | [], [], _, _, _, _, _ => rfl
  | [], b :: bs, _, _, _, _, h => absurd ((h b).mpr List.mem_cons_self) (by simp)
  | a :: as, [], _, _, _, _, h => absurd ((h a).mp List.mem_cons_self) (by simp)
  | a :: as, b :: bs, h1, h2, n1, n2, h => by
    rw [List.pairwise_cons] at h1 h2
    rw [List.nodup_cons] at n1 n2
    have e : a = b := by
      rcases List.mem_cons.mp ((h a).mp List.mem_cons_self) with e | e
      · exact e
      rcases List.mem_cons.mp ((h b).mpr List.mem_cons_self) with e2 | e2
      · exact e2.symm
      have := h1.1 b e2
      have := h2.1 a e
      omega
    subst e
    congr 1
    refine sorted_eq h1.2 h2.2 n1.2 n2.2 fun x => ?_
    have := h x
    rw [List.mem_cons, List.mem_cons] at this
    constructor
    · intro hx
      rcases this.mp (.inr hx) with e | e
      · rw [e] at hx; exact absurd hx n1.1
      · exact e
    · intro hx
      rcases this.mpr (.inr hx) with e | e
      · rw [e] at hx; exact absurd hx n2.1
      · exact e
section
variable {P : Program} {w' : World} {K : PySem.W.Frag} {mg : Str → Option Value} {base : Heap}
end
end L


namespace L
open PySem PySem.Spec PyProof.Rows L2 Z M WY HQ
theorem PX.same0 {q : Addr} {H0 H H' : Hp} (s : Same H0 H) (f : H0 q = none) (p : PX q H H') : Same H0 H' := fun b u e => p.sx b u (fun z => by rw [z, f] at e; cases e) (s b u e)
/-- another pool in between -/
theorem PX.via {q m : Addr} {H H1 H2 H3 : Hp} (a : PX q H H1) (s : Same H1 H2) (hm : m = q ∨ H1 m = none) (b : PX m H2 H3) : PX q H H3 := by
  rcases hm with rfl | hm
  · exact (a.same s).trans b
  · exact a.same (PX.same0 s hm b)
theorem PX.mutN {q p : Addr} {o : HO} {H H1 : Hp} (a : PX q H H1) (h : H p = none) (n : p ≠ q) : PX q H (upd H1 p o) := by
  refine ⟨a.1.own h, ?_, fun b x nb e => by rw [upd_ne (ne_of_none e h)]; exact a.3 b x nb e⟩
  obtain ⟨o', h2, hp⟩ := a.2
  exact ⟨o', by rw [upd_ne n.symm]; exact h2, hp⟩
section
variable {P : Program} {w' : World} {K : PySem.W.Frag} {mg : Str → Option Value} {base : Heap}
def spTurn (K : PySem.W.Frag) : Sp := fun vs H Q _ => ∃ (a q : Addr) (ns : List Int) (k : Int), vs = [.ref a, .ref q, .int k] ∧ SqL K H a (ns.map V.int) ∧ ns.length ≤ 1000 ∧ 0 ≤ k ∧ k < 1000 ∧ PoolAt H q ∧ ∀ m H', Same H H' → PoolAt H' m → (m = q ∨ H m = none) → Q (.ref m) H'
theorem ok_turn (T : Txt K mg) : FnOk P w' K mg base CX0 2 T.f_turn T.fd_turn ["_law_script", "_law_pool_here", "_law_k"] (spTurn K) := by
  have G_pool := ok_pool (P := P) (w := w') (base := base) T
  refine T.F_turn.ok sc_turn (fun vs H Q E h => ?_) (fun cdv A outer s0 H vs Q E hr h => ?_)
  · obtain ⟨a, q, ns, k, rfl, _⟩ := h
    rfl
  · obtain ⟨a, q, ns, k, rfl, hS, hl, hk, hk2, hp, h⟩ := h
    refine ⟨_, (pss_cons (ps_if (pt_cmpR op_lt (pv 2) (pe_callB call_len_seq (by rfl) T.m_len (by decide +kernel) (pa_cons (pv 0) pa_nil)) (nomark _)) (pss_one (ps_ret (pe_call G_pool (hr.mono (by first | decide | omega)) (by rfl) T.g_pool T.F_pool.kp T.b_pool .nil pass0 (pa_cons (pv 0) (pa_cons (pv 2) pa_nil))))) pss_nil)
 (pss_one (ps_ret (pv 1)))), ?_⟩
    refine Z.w_start (σ' := [some (.ref a), some (.ref q), some (.int k)]) rfl ?_
    by_cases hlt : k < ns.length
    · walk_at "w"
      refine ⟨a, ns, k, rfl, hS, hl, hk, by omega, fun m o hm ho => ?_⟩
      walk_at "w"
      exact h m _ (same_of (Same.refl _) hm) ⟨o, upd_same, ho⟩ (.inr hm)
    · walk_at "w"
      exact h q H (Same.refl _) hp (.inl rfl)
theorem w_ixTi {H : Hp} {Q : VK} {t : Addr} {r : Int} (ns : List Int) (h : H t = some (.tup (ns.map V.int))) (h0 : 0 ≤ r) (h1 : r < ns.length) (q : ∀ z, z ∈ ns → Q (.int z) H) : rIxT K (.ref t) (.int r) H Q := by
  obtain ⟨n, rfl⟩ : ∃ n : Nat, r = n := ⟨r.toNat, by omega⟩
  have hn : n < ns.length := by omega
  refine Z.w_ixTH h (v := .int ns[n]) (atI_nat (by rw [List.getElem?_map, List.getElem?_eq_getElem hn]; rfl)) (q _ (List.getElem_mem hn))
end
end L


namespace L
open PySem PySem.Spec PyProof.Rows L2 Z M WY HQ
theorem LimV.dropLast {H : Hp} {us : List V} {rs : List Lim} {r : Lim} (h : LimV H us (rs ++ [r])) : LimV H us.dropLast rs := by
  have hl := h.1
  rw [List.length_append, List.length_singleton] at hl
  refine ⟨by rw [List.length_dropLast, hl]; rfl, fun i x hx => ?_⟩
  have hi := (List.getElem?_eq_some_iff.mp hx).1
  obtain ⟨t, h1, h2⟩ := h.2 i x (by rw [List.getElem?_append_left hi]; exact hx)
  exact ⟨t, by rw [List.getElem?_dropLast, if_pos (by omega)]; exact h1, h2⟩
section
variable {P : Program} {w' : World} {K : PySem.W.Frag} {mg : Str → Option Value} {base : Heap}
def spBack (C : Addr) : Sp := fun vs H Q _ => ∃ (o : Addr) (w : WyO) (ks : List Int) (h : Int → Int) (la : Int → Addr) (rs : List Lim) (s : Nat) (c : Nat), vs = [.ref o, .int (c : Int)] ∧ WyC C H o w ks h la rs s ∧ PlIn rs ks ∧
  ∀ H', FrW o w ks la H H' → WyC C H' o w ks h la (rs.take c) (min s (rs.take c).length) → Q .non H'
theorem ok_back (T : Txt K mg) : FnOk P w' K mg base CX0 1 T.f_Ways_back T.fd_Ways_back ["self", "count"] (spBack T.C_Ways) := by
  refine T.F_Ways_back.ok sc_Ways_back (fun vs H Q E h => ?_) (fun cdv A outer s0 H vs Q E hr h => ?_)
  · obtain ⟨o, w, ks, hh, la, rs, s, c, rfl, _⟩ := h
    rfl
  · obtain ⟨o, w, ks, hh, la, rs, s, c, rfl, W, pl, h⟩ := h
    refine ⟨_, (pss_one (ps_while PassesOwn.never (pt_cmpR op_gt (pe_callB call_len_seq (by rfl) T.m_len (by decide +kernel) (pa_cons (pe_fld (pv 0) rfl) pa_nil)) (pv 1) (nomark _)) (pss_cons (ps_set (i := 2) sc_Ways_back.nd rfl (.inl rfl) (pe_ix ix_tup (pe_bm0 PySem.F.plainAttrs_list PySem.F.slot_list_pop PySem.F.type_list_pop mt_pop (pe_fld (pv 0) rfl)) pe_int (fun _ _ => rfl)))
 (pss_one (ps_if (pt_cmpR op_gt (pe_fld (pv 0) rfl) (pe_callB call_len_seq (by rfl) T.m_len (by decide +kernel) (pa_cons (pe_fld (pv 0) rfl) pa_nil)) (nomark _)) (pss_cons (ps_expr (pe_bm0 PySem.F.plainAttrs_list PySem.F.slot_list_pop PySem.F.type_list_pop mt_pop (pe_dget (hu_of hr) (pe_fld (pv 0) rfl) (pv 2) (fun _ _ => rfl))))
 (pss_one (ps_fldaug (pv 0) pe_int in_sub))) pss_nil))))), ?_⟩
    refine Z.w_start (σ' := [some (.ref o), some (.int (c:Int)), none]) rfl ?_
    refine w_while ?_
    refine ⟨fun m σ H' => ∃ (x2 : Option V) (n : Nat), m = n - c ∧ σ = [some (.ref o), some (.int (c : Int)), x2] ∧ FrW o w ks la H H' ∧ n ≤ rs.length ∧ (n = rs.length ∨ c ≤ n) ∧ WyC T.C_Ways H' o w ks hh la (rs.take n) (min s n), ⟨rs.length - c, none, rs.length, rfl, rfl, .refl H, Nat.le_refl _, .inl rfl, ?_⟩, ?_⟩
    · rw [List.take_length, Nat.min_eq_left W.sl]
      exact W
    rintro m σ H' ⟨x2, n, rfl, rfl, fr, hn, hnc, W1⟩
    obtain ⟨us, l1, l2⟩ := W1.li
    have hln : (rs.take n).length = n := by rw [List.length_take]; omega
    have hul : us.length = n := by rw [l2.1, hln]
    walk_at "w"
    refine w_fldT T.cl_Ways T.n_Ways__limits W1.ob rfl ?_
    walk_at "w"
    by_cases hgt : c < n
    · refine Z.w_iteT (by omega) ?_
      refine ⟨fun σ' H' => ∃ m', m' < n - c ∧ ∃ (x2 : Option V) (n : Nat), m' = n - c ∧ σ' = [some (.ref o), some (.int (c : Int)), x2] ∧ FrW o w ks la H H' ∧ n ≤ rs.length ∧ (n = rs.length ∨ c ≤ n) ∧ WyC T.C_Ways H' o w ks hh la (rs.take n) (min s n), fun σ' H' h => h, ?_⟩
      obtain ⟨n', rfl⟩ : ∃ n', n = n' + 1 := ⟨n - 1, by omega⟩
      have hr : rs[n']? = some rs[n'] := List.getElem?_eq_getElem (by omega)
      have hty := (pl rs[n'] (List.getElem_mem _)).2
      have htk : rs.take (n' + 1) = rs.take n' ++ [rs[n']] := by rw [List.take_add_one, hr]; rfl
      generalize rs[n'] = r at *
      have hln' : (rs.take n').length = n' := by rw [List.length_take]; omega
      have hlast : (rs.take (n' + 1))[n']? = some r := by rw [List.getElem?_take, if_pos (by omega), hr]
      obtain ⟨t, g1, g2⟩ := l2.2 _ _ hlast
      walk_at "w"
      refine Z.w_bm0 ?_
      walk_at "w"
      refine w_fldT T.cl_Ways T.n_Ways__limits W1.ob rfl ?_
      refine ⟨.inl ⟨rfl, _, .inl (.inl l1)⟩, w.li, us, .ref t, rfl, rfl, l1, by rw [hul]; exact g1, ?_⟩
      walk_at "w"
      have n0 : w.li ≠ w.hd := ne_ld l1 W1.hd
      have nol : o ≠ w.li := ne_ins W1.ob l1 (fun _ _ _ z => by cases z)
      have nle : w.le ≠ w.li := (ne_ld l1 W1.le).symm
      have tp1 : TupS H' (upd H' w.li (.lst us.dropLast)) := W1.tupS (FrW.put (FrW.refl _) m_li)
      have fr1 : FrW o w ks la H (upd H' w.li (.lst us.dropLast)) := fr.put m_li
      have eli : (upd H' w.li (.lst us.dropLast)) w.li = some (.lst us.dropLast) := upd_same
      have sk : ∀ b u, b ≠ w.li → H' b = some u → (upd H' w.li (.lst us.dropLast)) b = some u := fun b u nb e => by
        rw [upd_ne nb]
        exact e
      generalize upd H' w.li (.lst us.dropLast) = H1 at *
      have g2' := tp1 _ _ g2
      unfold limT at g2'
      have hdl : us.dropLast.length = n' := by rw [List.length_dropLast, hul]; rfl
      have lv1 : LimV H1 us.dropLast (rs.take n') := (htk ▸ l2).dropLast.tup tp1
      have ob1 := sk _ _ nol W1.ob
      have ky := hty
      have hln1 := sk _ _ (W1.ll _ ky) (W1.ln _ ky)
      have hle1 := sk _ _ nle W1.le
      have hhd1 := sk _ _ n0.symm W1.hd
      have fe1 : Feas (rs.take n') (min s n') hh := fun i q hi hq => W1.fe i q (by omega) (by rw [htk, List.getElem?_append_left (by omega)]; exact hq)
      have hsz := W1.sz
      have key : ∀ (H2 : Hp), FrW o w ks la H1 H2 → TupS H1 H2 → H2 o = some (.ins T.C_Ways w.dx (w.fs (min s n'))) → (∀ p ∈ ks, H2 (la p) = some (.lst (iV (leans (rs.take n') (min s n') p)))) → H2 w.li = some (.lst us.dropLast) → H2 w.hd = H1 w.hd → H2 w.le = H1 w.le → FrW o w ks la H H2 ∧ WyC T.C_Ways H2 o w ks hh la (rs.take n') (min s n') := fun H2 f2 t2 eo el e1 e2 e3 => by
        refine ⟨fr1.trans f2, ⟨eo, ⟨_, e1, lv1.tup t2⟩, by rw [e2]; exact hhd1, by rw [e3]; exact hle1, el, W1.inj, W1.ll, W1.dd, W1.nd, W1.k0, by omega, fe1, by omega, hsz.2⟩⟩
      walk_at "w"
      refine w_fldT T.cl_Ways T.n_Ways__settled ob1 rfl ?_
      walk_at "w"
      refine w_fldT T.cl_Ways T.n_Ways__limits ob1 rfl ?_
      walk_at "w"
      rw [hdl]
      by_cases hs : n' < s
      · refine Z.w_iteT (by omega) ?_
        have e1 : min s (n' + 1) = n' + 1 := by omega
        have e2 : min s n' = n' := by omega
        rw [e1] at ob1 hln1 W1
        rw [e2] at key
        have e3 : leans (rs.take (n' + 1)) (n' + 1) (ly r) = leans (rs.take n') n' (ly r) ++ [n'] := by
          rw [leans_succ, gy_at hlast, if_pos rfl, htk, leans_snoc r (by omega)]
        have e4 : iV (leans (rs.take (n' + 1)) (n' + 1) (ly r)) = iV (leans (rs.take n') n' (ly r)) ++ [V.int (n' : Int)] := by
          rw [e3]
          unfold iV
          rw [List.map_append]
          rfl
        rw [e4] at hln1
        walk_at "w"
        refine Z.w_bm0 ?_
        walk_at "w"
        refine w_fldT T.cl_Ways T.n_Ways__leaning ob1 rfl ?_
        walk_at "w"
        refine ⟨w.le, _, rfl, dget_lD hle1 ky, ?_⟩
        refine ⟨.inl ⟨rfl, _, .inl (.inl hln1)⟩, la (ly r), _, V.int (n' : Int), rfl, rfl, hln1, by simp, ?_⟩
        rw [List.dropLast_concat]
        walk_at "w"
        try dsimp only
        refine w_fldaug ?_
        have no2 : o ≠ la (ly r) := ne_ins ob1 hln1 (fun _ _ _ z => by cases z)
        refine Z.w_var (v := V.ref o) rfl ⟨o, T.C_Ways, w.dx, w.fs (n' + 1), .int ((n' + 1 : Nat) : Int), rfl, by rw [upd_ne no2]; exact ob1, T.cl_Ways, T.n_Ways__settled, rfl, ?_⟩
        walk_at "w"
        refine ⟨((n' + 1 : Nat) : Int), 1, rfl, rfl, w.dx, w.fs (n' + 1), by rw [upd_ne no2]; exact ob1, (show 4 < 1000 by decide), ?_⟩
        have efs : putF "_settled" (.int (((n' + 1 : Nat) : Int) - 1)) (w.fs (n' + 1)) = w.fs n' := by
          have : ((n' + 1 : Nat) : Int) - 1 = (n' : Int) := by omega
          rw [this]
          rfl
        rw [efs]
        have k := key (upd (upd H1 (la (ly r)) (.lst (iV (leans (rs.take n') n' (ly r))))) o (.ins T.C_Ways w.dx (w.fs n'))) ((FrW.put (FrW.refl _) (m_la ky)).put m_o) (fun b xs e => ?_) upd_same (fun p hp => ?_) ?_ ?_ ?_
        · exact ⟨_, by omega, _, n', rfl, rfl, k.1, by omega, .inr (by omega), by rw [e2]; exact k.2⟩
        · have n1 : b ≠ o := fun z => by rw [z, ob1] at e; cases e
          have n2 : b ≠ la (ly r) := fun z => by rw [z, hln1] at e; cases e
          rw [upd_ne n1, upd_ne n2]
          exact e
        · by_cases e : p = ly r
          · rw [e, upd_ne no2.symm, upd_same]
          · have hlp := sk _ _ (W1.ll _ hp) (W1.ln p hp)
            have n4 : la p ≠ o := (ne_ins ob1 hlp (fun _ _ _ z => by cases z)).symm
            rw [upd_ne n4, upd_ne (fun z => e (W1.inj p hp _ ky z)), hlp, leans_succ, gy_at hlast, if_neg (fun z => e z.symm), List.append_nil, htk, leans_snoc r (by omega)]
        · rw [upd_ne nol.symm, upd_ne (W1.ll _ ky).symm]
          exact eli
        · have n1 : w.hd ≠ o := (ne_ins ob1 hhd1 (fun _ _ _ z => by cases z)).symm
          rw [upd_ne n1, upd_ne (ne_ld hln1 hhd1).symm]
        · have n1 : w.le ≠ o := (ne_ins ob1 hle1 (fun _ _ _ z => by cases z)).symm
          rw [upd_ne n1, upd_ne (ne_ld hln1 hle1).symm]
      · refine Z.w_iteF (by omega) ?_
        walk_at "w"
        have e1 : min s (n' + 1) = s := by omega
        have e2 : min s n' = s := by omega
        rw [e1] at ob1 W1
        rw [e2] at key
        have k := key H1 (.refl _) (fun b xs e => e) ob1 (fun p hp => ?_) eli rfl rfl
        · exact ⟨_, by omega, _, n', rfl, rfl, k.1, by omega, .inr (by omega), by rw [e2]; exact k.2⟩
        · have hlp := sk _ _ (W1.ll _ hp) (W1.ln p hp)
          rw [hlp, htk, leans_snoc r (by omega)]
    · refine Z.w_iteF (by omega) ?_
      walk_at "w"
      have et : rs.take n = rs.take c := by
        rcases hnc with e | e
        · rw [List.take_of_length_le (by omega), List.take_of_length_le (by omega)]
        · have : n = c := by omega
          rw [this]
      refine h H' fr ?_
      rw [← et, hln]
      exact W1
end
end L


namespace L
open PySem PySem.Spec PyProof.Rows L2 Z M WY HQ
section
variable {P : Program} {w' : World} {K : PySem.W.Frag} {mg : Str → Option Value} {base : Heap}
theorem at_i {ps : List Int} {r : Int} (h0 : 0 ≤ r) (h1 : r < ps.length) : ∃ z, atI (ps.map V.int) r = some (.int z) ∧ z ∈ ps := by
  obtain ⟨n, rfl⟩ : ∃ n : Nat, r = n := ⟨r.toNat, by omega⟩
  have hn : n < ps.length := by omega
  exact ⟨ps[n], atI_nat (by rw [List.getElem?_map, List.getElem?_eq_getElem hn]; rfl), List.getElem_mem hn⟩
def spPlaces : Sp := fun vs H Q _ => ∃ (q : Addr), vs = [.ref q] ∧ PoolAt H q ∧ ∀ (p : Addr) (H' : Hp) (ps : List Int), PX q H H' → H p = none → H' p = some (.lst (ps.map V.int)) → (0 : Int) ∈ ps → ps.Nodup → ps.length ≤ 6 → Q (.ref p) H'
theorem ok_places (T : Txt K mg) : FnOk P w' K mg base CX0 2 T.f_places T.fd_places ["_law_pool_here"] spPlaces := by
  have G_take := ok_take (P := P) (w := w') (base := base) T
  refine T.F_places.ok sc_places (fun vs H Q E h => ?_) (fun cdv A outer s0 H vs Q E hr h => ?_)
  · obtain ⟨q, rfl, _⟩ := h
    rfl
  · obtain ⟨q, rfl, hp, h⟩ := h
    refine ⟨_, (pss_cons (ps_set (i := 1) sc_places.nd rfl (.inl rfl) (pe_ix ix_tup (pe_tup (pa_cons pe_int (pa_cons pe_int (pa_cons pe_int pa_nil)))) (pe_call G_take (hr.mono (by first | decide | omega)) (by rfl) T.g_take T.F_take.kp T.b_take .nil pass0 (pa_cons (pv 0) (pa_cons pe_int pa_nil))) (fun _ _ => rfl)))
 (pss_cons (ps_set (i := 2) sc_places.nd rfl (.inl rfl) (pe_lst (pa_cons pe_int pa_nil)))
 (pss_cons (ps_for PassesOwn.never rfl (pi_range1 (by rfl) T.m_range (pa_cons (pe_op op_add pe_int (pe_call G_take (hr.mono (by first | decide | omega)) (by rfl) T.g_take T.F_take.kp T.b_take .nil pass0 (pa_cons (pv 0) (pa_cons pe_int pa_nil)))) pa_nil)) (pg_name (i := 3) sc_places.nd rfl (.inl rfl)) (pss_one (ps_expr (pe_bm PySem.F.plainAttrs_list PySem.F.slot_list_append PySem.F.type_list_append mt_append (pv 2) (pa_cons (pe_op op_add (pe_op op_add (pe_ix ix_list (pv 2) (pv 3) (fun _ _ => rfl)) pe_int) (pe_call G_take (hr.mono (by first | decide | omega)) (by rfl) T.g_take T.F_take.kp T.b_take .nil pass0 (pa_cons (pv 0) (pa_cons (pv 1) pa_nil)))) pa_nil)))))
 (pss_one (ps_ret (pv 2)))))), ?_⟩
    refine Z.w_start (σ' := [some (.ref q), none, none, none]) rfl ?_
    walk_at "w"
    rename_i t ft r H1 p1 h0 h1
    have nt : t ≠ q := fun z => by
      obtain ⟨o, ho, _⟩ := hp
      rw [z, ho] at ft
      cases ft
    have et : (upd H t (.tup [.int 1, .int 6, .int 200])) t = some (.tup [.int 1, .int 6, .int 200]) := upd_same
    have pA : PX q H H1 := (PX.refl hp).new ft |>.trans p1
    refine w_ixTi [1, 6, 200] (p1.sx _ _ nt et) h0 h1 fun z hz => ?_
    have hz2 : 1 ≤ z ∧ z ≤ 200 := by
      simp only [List.mem_cons, List.not_mem_nil, or_false] at hz
      omega
    walk_at "w"
    rename_i p fp
    have s2 := same_of (Same.refl H1) fp (o := .lst [.int 0])
    have ep : (upd H1 p (.lst [.int 0])) p = some (.lst [.int 0]) := upd_same
    have pB := pA.same s2
    have fp0 := fresh_px pA hp fp
    generalize upd H1 p (.lst [.int 0]) = H2 at *
    refine use_takeP pB.pl (by omega) (by omega) fun r2 H3 p3 h2 h3 => ?_
    walk_at "w"
    have npq : p ≠ q := fun z => by
      obtain ⟨o, ho, _⟩ := hp
      rw [z, ho] at fp0
      cases fp0
    refine ⟨by omega, by omega, ?_⟩
    refine for_range (fun k σ H' => ∃ (x3 : Option V) (ps : List Int), σ = [some (.ref q), some (.int z), some (.ref p), x3] ∧ PX q H H' ∧ H' p = some (.lst (ps.map V.int)) ∧ (0 : Int) ∈ ps ∧ ps.length = k + 1 ∧ ps.Nodup ∧ ∀ x z, x ∈ ps → ps[k]? = some z → x ≤ z) ?_ ?_ ?_
    · exact ⟨none, [0], rfl, pB.trans p3, p3.sx _ _ npq ep, by simp, rfl, by simp, fun x z hx hz => by simp at hx hz; omega⟩
    · rintro k σ H4 hk ⟨x3, ps, rfl, p4, e4, m4, l4, n4, b4⟩
      have hk2 : k < 6 := by omega
      have hki : k < ps.length := by omega
      have hg : ps[k]? = some ps[k] := List.getElem?_eq_getElem hki
      have hat : atI (ps.map V.int) (k : Int) = some (.int ps[k]) := atI_nat (by rw [List.getElem?_map, hg]; rfl)
      have ek : (0 : Int) + (k : Int) = (k : Int) := by omega
      rw [ek]
      have b5 := fun x hx => b4 x _ hx hg
      generalize ps[k] = pk at *
      have hpl := p4.pl
      refine Z.w_bm ?_
      walk_at "w"
      refine ⟨.inl ⟨rfl, _, .inl (.inl e4)⟩, ?_⟩
      walk_at "w"
      rename_i r5 H5 p5 h6 h7
      have e5 := p5.sx _ _ npq e4
      refine ⟨p, _, _, rfl, rfl, e5, ?_, _, ps ++ [pk + 1 + r5], rfl, (p4.trans p5).mutN fp0 npq, by rw [upd_same, List.map_append]; rfl, List.mem_append_left _ m4, by rw [List.length_append, l4]; rfl, ?_, ?_⟩
      · rw [List.length_map, l4]
        exact Nat.lt_trans (show k + 1 < 50 by omega) (by decide)
      · rw [List.nodup_append]
        refine ⟨n4, by simp, fun a ha b hb e => ?_⟩
        rw [List.mem_singleton.mp hb] at e
        have := b5 a ha
        omega
      · intro x z hx hz
        rw [List.getElem?_append_right (by omega)] at hz
        have : k + 1 - ps.length = 0 := by omega
        rw [this] at hz
        obtain rfl := Option.some.inj hz
        rcases List.mem_append.mp hx with hx | hx
        · have := b5 x hx
          omega
        · rw [List.mem_singleton.mp hx]
          exact Int.le_refl _
    · rintro σ H4 ⟨x3, ps, rfl, p4, e4, m4, l4, n4, b4⟩
      walk_at "w"
      exact h p H4 ps p4 fp0 e4 m4 n4 (by omega)
def oV : Option Int → V
  | none => .non
  | some i => .int i
theorem o_at {os : List (Option Int)} {n : Nat} (h : n < os.length) : atI (os.map oV) (n : Int) = some (oV os[n]) := atI_nat (by rw [List.getElem?_map, List.getElem?_eq_getElem h]; rfl)
theorem w_oset {H : Hp} {R : Hp → Prop} {D : Addr} {os : List (Option Int)} {n : Nat} {v : Option Int} (h : H D = some (.lst (os.map oV))) (hn : n < os.length) (q : R (upd H D (.lst ((os.set n v).map oV)))) : rSetL (.ref D) (.int (n : Int)) (oV v) H R := by
  refine ⟨D, _, _, n, rfl, rfl, h, ?_, ?_⟩
  · unfold ixN
    rw [List.length_map]
    rw [if_pos (by omega), if_pos (by omega)]
    rfl
  · rw [← List.map_set]
    exact q
def spReach : Sp := fun vs H Q _ => ∃ (R A : Addr) (z : Int) (us : List V) (rs : List Lim) (ps : List Int), vs = [.ref R, .ref A, .int z] ∧ H R = some (.lst us) ∧ LimV H us rs ∧ H A = some (.lst (ps.map V.int)) ∧ z ∈ ps ∧ (∀ r ∈ rs, lx r ∈ ps ∧ ly r ∈ ps) ∧ ps.length < 64 ∧ ∀ (p : Addr) (H' : Hp) (os : List (Option Int)), Same H H' → H p = none → H' p = some (.lst (os.map oV)) → os.length = ps.length → Q (.ref p) H'
theorem ok_reach (T : Txt K mg) : FnOk P w' K mg base CX0 1 T.f_reach T.fd_reach ["_law_limits", "_law_places_here", "_law_start"] spReach := by
  refine T.F_reach.ok sc_reach (fun vs H Q E h => ?_) (fun cdv A outer s0 H vs Q E hr h => ?_)
  · obtain ⟨R, A, z, us, rs, ps, rfl, _⟩ := h
    rfl
  · obtain ⟨R, A, z, us, rs, ps, rfl, hR, hv, hp, hz, hpl, hln, h⟩ := h
    have hul := hv.1
    refine ⟨_, (pss_cons (ps_setLc (i := 3) (own := [("_law_place", 4)]) (g := gName 4) (tt := tYes) (by rfl) sc_reach.nd rfl rfl (sw_true rfl rfl rfl (by decide +kernel)) (pi_list (pv 1)) (blkOk_by (own := [("_law_place", 4)]) (N := N_reach) (sc := defScope s_reach) (by decide +kernel)) (fun _ _ _ _ _ => pg_name (i := 4) sc_reach.nd rfl (Or.inl rfl)) (fun _ _ _ _ _ => pts_nil) (fun _ _ _ _ _ => pe_non))
 (pss_cons (ps_set (i := 5) sc_reach.nd rfl (.inl rfl) (pe_bm PySem.F.plainAttrs_list PySem.F.slot_list_index PySem.F.type_list_index mt_index (pv 1) (pa_cons (pv 2) pa_nil)))
 (pss_cons (ps_asg pe_int (pg_sub (pv 3) (pv 5) set_list))
 (pss_cons (ps_for PassesOwn.never rfl (pi_range1 (by rfl) T.m_range (pa_cons (pe_callB call_len_seq (by rfl) T.m_len (by decide +kernel) (pa_cons (pv 1) pa_nil)) pa_nil)) (pg_name (i := 6) sc_reach.nd rfl (.inl rfl)) (pss_one (ps_for PassesOwn.never rfl (pi_list (pv 0)) (pg_name (i := 7) sc_reach.nd rfl (.inl rfl)) (pss_cons (ps_set (i := 8) sc_reach.nd rfl (.inl rfl) (pe_bm PySem.F.plainAttrs_list PySem.F.slot_list_index PySem.F.type_list_index mt_index (pv 1) (pa_cons (pe_ix ix_tup (pv 7) pe_int (fun _ _ => rfl)) pa_nil)))
 (pss_cons (ps_set (i := 9) sc_reach.nd rfl (.inl rfl) (pe_bm PySem.F.plainAttrs_list PySem.F.slot_list_index PySem.F.type_list_index mt_index (pv 1) (pa_cons (pe_ix ix_tup (pv 7) pe_int (fun _ _ => rfl)) pa_nil)))
 (pss_one (ps_if (PW.pt (pw_and (pt_cmpR op_notN (pe_ix ix_list (pv 3) (pv 9) (fun _ _ => rfl)) pe_non (nomark _)) (pw_and1 (PW.pt (pw_or (pt_cmpR op_isN (pe_ix ix_list (pv 3) (pv 8) (fun _ _ => rfl)) pe_non (nomark _)) (pw_or1 (pt_cmpR op_gt (pe_ix ix_list (pv 3) (pv 8) (fun _ _ => rfl)) (pe_op op_add (pe_ix ix_list (pv 3) (pv 9) (fun _ _ => rfl)) (pe_ix ix_tup (pv 7) pe_int (fun _ _ => rfl))) (nomark _)))))))) (pss_one (ps_asg (pe_op op_add (pe_ix ix_list (pv 3) (pv 9) (fun _ _ => rfl)) (pe_ix ix_tup (pv 7) pe_int (fun _ _ => rfl))) (pg_sub (pv 3) (pv 8) set_list))) pss_nil)))))))
 (pss_one (ps_ret (pv 3))))))), ?_⟩
    refine Z.w_start (σ' := [some (.ref R), some (.ref A), some (.int z), none, none, none, none, none, none, none]) rfl ?_
    walk_at "w"
    intro D hD
    have hSp : ∀ {H' : Hp}, Same H H' → SqL K H' A (ps.map V.int) := fun {H'} sm => .inl (.inl (sm _ _ hp))
    refine lc_list (K := K) (xs := ps.map V.int) (fun j H6 => Same H H6 ∧ j ≤ ps.length ∧ ∃ os : List (Option Int), H6 D = some (.lst (os.map oV)) ∧ os.length = j) ?_ ?_ ?_ ?_
    · exact ⟨same_of (Same.refl _) hD, Nat.zero_le _, [], upd_same, rfl⟩
    · rintro j H6 hj ⟨s6, _⟩
      exact hSp s6
    · rintro j x H6 hx ⟨s6, _, os, e6, l6⟩
      have hj : j < ps.length := by
        have := (List.getElem?_eq_some_iff.mp hx).1
        rwa [List.length_map] at this
      rw [List.getElem?_map, List.getElem?_eq_getElem hj] at hx
      obtain rfl := Option.some.inj hx
      refine Z.w_gname (σ' := [some (.ref R), some (.ref A), some (.int z), none, some (.int ps[j]), none, none, none, none, none]) rfl ⟨rfl, ?_⟩
      walk_at "w"
      refine ⟨_, e6, ?_, same_mut s6 hD, hj, os ++ [none], by rw [upd_same, List.map_append]; rfl, by rw [List.length_append, l6]; rfl⟩
      rw [List.length_map, l6]
      exact Nat.lt_trans (show j < 100 by omega) (by decide)
    · rintro H6 ⟨s6, _, os, e6, l6⟩
      rw [List.length_map] at l6
      have hSp6 := hSp s6
      walk_at "w"
      refine Z.w_bm ?_
      walk_at "w"
      refine ⟨.inl ⟨rfl, _, hSp6⟩, ?_⟩
      walk_at "w"
      refine w_indexI hSp6 hz ?_
      walk_at "w"
      refine w_oset (v := some 0) e6 (by rw [l6]; exact List.idxOf_lt_length_of_mem hz) ?_
      have sm7 := same_mut s6 hD (o := .lst ((os.set (ps.idxOf z) (some 0)).map oV))
      have e7 : (upd H6 D (.lst ((os.set (ps.idxOf z) (some 0)).map oV))) D = some (.lst ((os.set (ps.idxOf z) (some 0)).map oV)) := upd_same
      have l7 : (os.set (ps.idxOf z) (some 0)).length = ps.length := by rw [List.length_set, l6]
      generalize os.set (ps.idxOf z) (some 0) = os7 at *
      generalize upd H6 D (.lst (os7.map oV)) = H7 at *
      have hSp7 := hSp sm7
      have hpsl : (ps.map V.int).length = ps.length := lst_len
      walk_at "w"
      refine ⟨by omega, by omega, ?_⟩
      refine for_range (fun t σ H' => ∃ (x6 x7 x8 x9 : Option V) (os : List (Option Int)), σ = [some (.ref R), some (.ref A), some (.int z), some (.ref D), none, some (.int (ps.idxOf z : Nat)), x6, x7, x8, x9] ∧ Same H H' ∧ H' D = some (.lst (os.map oV)) ∧ os.length = ps.length) ?_ ?_ ?_
      · exact ⟨none, none, none, none, os7, rfl, sm7, e7, l7⟩
      · rintro t σ H' ht ⟨x6, x7, x8, x9, os, rfl, sm, eD, lo⟩
        walk_at "w"
        refine ⟨⟨_, .inl (.inl (sm _ _ hR))⟩, ?_⟩
        refine for_list (K := K) (xs := us) (fun j σ H2 => ∃ (x7 x8 x9 : Option V) (os : List (Option Int)), σ = [some (.ref R), some (.ref A), some (.int z), some (.ref D), none, some (.int (ps.idxOf z : Nat)), some (.int (0 + (t : Int))), x7, x8, x9] ∧ Same H H2 ∧ H2 D = some (.lst (os.map oV)) ∧ os.length = ps.length) ?_ ?_ ?_ ?_
        · exact ⟨_, _, _, os, rfl, sm, eD, lo⟩
        · rintro j σ H2 hj ⟨x7, x8, x9, os, rfl, sm2, _⟩
          exact .inl (.inl (sm2 _ _ hR))
        · rintro j v σ H2 hv2 ⟨x7, x8, x9, os, rfl, sm2, eD2, lo2⟩
          have hju := (List.getElem?_eq_some_iff.mp hv2).1
          have hj : j < rs.length := by rw [← hul]; exact hju
          have hri : rs[j]? = some rs[j] := List.getElem?_eq_getElem hj
          obtain ⟨tt, k1, k2⟩ := hv.2 j _ hri
          have hmr : rs[j] ∈ rs := List.getElem_mem hj
          generalize rs[j] = r at *
          rw [hv2] at k1
          obtain rfl := Option.some.inj k1
          have k2' := sm2 _ _ k2
          unfold limT at k2'
          obtain ⟨kx, ky⟩ := hpl r hmr
          have hS2 := hSp sm2
          have lx' : ps.idxOf (lx r) < os.length := by rw [lo2]; exact List.idxOf_lt_length_of_mem kx
          have ly' : ps.idxOf (ly r) < os.length := by rw [lo2]; exact List.idxOf_lt_length_of_mem ky
          have aX := o_at lx'
          have aY := o_at ly'
          have hSD : SqL K H2 D (os.map oV) := .inl (.inl eD2)
          walk_at "w"
          refine Z.w_bm ?_
          walk_at "w"
          refine ⟨.inl ⟨rfl, _, hS2⟩, ?_⟩
          walk_at "w"
          refine w_indexI hS2 kx ?_
          walk_at "w"
          refine Z.w_bm ?_
          walk_at "w"
          refine ⟨.inl ⟨rfl, _, hS2⟩, ?_⟩
          walk_at "w"
          refine w_indexI hS2 ky ?_
          have fin : ∀ i : Int, ∃ (x7 x8 x9 : Option V) (os' : List (Option Int)), [some (.ref R), some (.ref A), some (.int z), some (.ref D), none, some (.int (ps.idxOf z : Nat)), some (.int (0 + (t : Int))), some (.ref tt), some (.int (ps.idxOf (lx r) : Nat)), some (.int (ps.idxOf (ly r) : Nat))] = [some (.ref R), some (.ref A), some (.int z), some (.ref D), none, some (.int (ps.idxOf z : Nat)), some (.int (0 + (t : Int))), x7, x8, x9] ∧ Same H (upd H2 D (.lst ((os.set (ps.idxOf (lx r)) (some i)).map oV))) ∧ (upd H2 D (.lst ((os.set (ps.idxOf (lx r)) (some i)).map oV))) D = some (.lst (os'.map oV)) ∧ os'.length = ps.length := fun i => ⟨_, _, _, _, rfl, same_mut sm2 hD, upd_same, by rw [List.length_set, lo2]⟩
          have nof : ∃ (x7 x8 x9 : Option V) (os' : List (Option Int)), [some (.ref R), some (.ref A), some (.int z), some (.ref D), none, some (.int (ps.idxOf z : Nat)), some (.int (0 + (t : Int))), some (.ref tt), some (.int (ps.idxOf (lx r) : Nat)), some (.int (ps.idxOf (ly r) : Nat))] = [some (.ref R), some (.ref A), some (.int z), some (.ref D), none, some (.int (ps.idxOf z : Nat)), some (.int (0 + (t : Int))), x7, x8, x9] ∧ Same H H2 ∧ H2 D = some (.lst (os'.map oV)) ∧ os'.length = ps.length := ⟨_, _, _, os, rfl, sm2, eD2, lo2⟩
          cases hy : os[ps.idxOf (ly r)] with
          | none =>
            rw [hy] at aY
            have aY : atI (os.map oV) (ps.idxOf (ly r) : Nat) = some .non := aY
            walk_at "w"
            exact nof
          | some iy =>
            rw [hy] at aY
            have aY : atI (os.map oV) (ps.idxOf (ly r) : Nat) = some (.int iy) := aY
            cases hx : os[ps.idxOf (lx r)] with
            | none =>
              rw [hx] at aX
              have aX : atI (os.map oV) (ps.idxOf (lx r) : Nat) = some .non := aX
              walk_at "w"
              exact w_oset (v := some _) eD2 lx' (fin _)
            | some ix =>
              rw [hx] at aX
              have aX : atI (os.map oV) (ps.idxOf (lx r) : Nat) = some (.int ix) := aX
              walk_at "w"
              by_cases hgt : ix > iy + lk r
              · refine Z.w_iteT hgt ?_
                walk_at "w"
                exact w_oset (v := some _) eD2 lx' (fin _)
              · refine Z.w_iteF hgt ?_
                walk_at "w"
                exact nof
        · rintro σ H2 ⟨x7, x8, x9, os, rfl, sm2, eD2, lo2⟩
          exact ⟨_, _, _, _, os, rfl, sm2, eD2, lo2⟩
      · rintro σ H2 ⟨x6, x7, x8, x9, os, rfl, sm2, eD2, lo2⟩
        walk_at "w"
        exact h D H2 os sm2 hD eD2 lo2
end
end L


namespace L
open PySem PySem.Spec PyProof.Rows L2 Z M WY HQ
/-! houses -/
structure WO where
  o : Addr
  w : WyO
  ks : List Int
  h : Int → Int
  la : Int → Addr
  s : Nat
def WO.m (x : WO) : List Addr := mutW x.o x.w x.ks x.la
structure HR where
  S : Addr
  R : Addr
  A : Addr
  x : WO
  us : List V
  rs : List Lim
  as : List Int
  b3 : Bool
  b4 : Bool
def mutH (d : HR) : List Addr := d.S :: d.x.m
def allH (d : HR) : List Addr := d.R :: d.A :: mutH d
theorem mut_all {d : HR} {b : Addr} (h : b ∈ mutH d) : b ∈ allH d := List.mem_cons_of_mem _ (List.mem_cons_of_mem _ h)
def LabJ (rs : List Lim) : Prop := ∀ (i : Nat) (r : Lim), rs[i]? = some r → ∃ c, 0 ≤ c ∧ c < 3 ∧ (ll r = 1 + 3 * (i : Int) + c ∨ ll r = 0 - (1 + 3 * (i : Int) + c))
theorem LabJ.d {rs : List Lim} (L : LabJ rs) : LabD rs := fun i j a b ha hb e => by
  obtain ⟨c, c1, c2, c3⟩ := L i a ha
  obtain ⟨d, d1, d2, d3⟩ := L j b hb
  omega
theorem LabJ.take {rs : List Lim} (L : LabJ rs) (n : Nat) : LabJ (rs.take n) := fun i a ha => by
  rw [List.getElem?_take] at ha
  split at ha
  · exact L i a ha
  · cases ha
theorem LabJ.snoc {rs : List Lim} {r : Lim} (L : LabJ rs) {c : Int} (h1 : 0 ≤ c) (h2 : c < 3) (h3 : ll r = 1 + 3 * (rs.length : Int) + c ∨ ll r = 0 - (1 + 3 * (rs.length : Int) + c)) : LabJ (rs ++ [r]) := fun i x hx => by
  by_cases hi : i < rs.length
  · rw [List.getElem?_append_left hi] at hx
    exact L i x hx
  · have h5 := (List.getElem?_eq_some_iff.mp hx).1
    rw [List.length_append, List.length_singleton] at h5
    obtain rfl : i = rs.length := by omega
    rw [List.getElem?_append_right (Nat.le_refl _), Nat.sub_self] at hx
    obtain rfl := Option.some.inj hx
    exact ⟨c, h1, h2, h3⟩
def HR.fs (d : HR) : List V := [.ref d.x.o, .ref d.R, .ref d.A, .bl d.b3, .bl d.b4]
structure House (C : Addr) (H : Hp) (ps : List Int) (d : HR) : Prop where
  W : WyC C H d.x.o d.x.w d.x.ks d.x.h d.x.la d.rs d.x.s
  pl : PlIn d.rs d.x.ks
  eS : H d.S = some (.lst d.fs)
  eR : H d.R = some (.lst d.us)
  lv : LimV H d.us d.rs
  eA : H d.A = some (.lst (d.as.map V.int))
  nd : d.as.Nodup
  ma : ∀ z, z ∈ d.as ↔ z ∈ d.x.ks
  nS : d.S ∉ d.x.m
  nR : d.R ∉ mutH d
  nA : d.A ∉ mutH d
  sub : ∀ z ∈ d.x.ks, z ∈ ps
  s3 : d.b3 = true → d.x.s = d.rs.length
  lab : LabJ d.rs
theorem House.alive {C : Addr} {H : Hp} {ps : List Int} {d : HR} (h : House C H ps d) {b : Addr} (hb : b ∈ allH d) : H b ≠ none := by
  simp only [allH, mutH, List.mem_cons] at hb
  rcases hb with rfl | rfl | rfl | hb
  · rw [h.eR]; simp
  · rw [h.eA]; simp
  · rw [h.eS]; simp
  · obtain ⟨u, hu, _⟩ := h.W.has hb
    rw [hu]
    simp
theorem House.stay {C : Addr} {H H' : Hp} {ps : List Int} {d : HR} (h : House C H ps d) (s : ∀ b u, b ∈ allH d → H b = some u → H' b = some u) (t : TupS H H') : House C H' ps d :=
  ⟨h.W.same (fun b u hb => s b u (mut_all (List.mem_cons_of_mem _ hb))) t, h.pl, s _ _ (by simp [allH, mutH]) h.eS, s _ _ (by simp [allH]) h.eR, h.lv.tup t, s _ _ (by simp [allH]) h.eA, h.nd, h.ma, h.nS, h.nR, h.nA, h.sub, h.s3, h.lab⟩
theorem House.same {C : Addr} {H H' : Hp} {ps : List Int} {d : HR} (h : House C H ps d) (s : Same H H') : House C H' ps d := h.stay (fun b u _ => s b u) (TupS.of s)
/-- what a deed changes -/
structure HX (H H' : Hp) (d d' : HR) : Prop where
  fr : ∀ b u, b ∉ mutH d → H b = some u → H' b = some u
  gr : ∀ b ∈ mutH d', b ∈ mutH d ∨ H b = none
  ga : ∀ b ∈ allH d', b ∈ allH d ∨ H b = none
  al : ∀ b, H b ≠ none → H' b ≠ none
  eS : d'.S = d.S
theorem HX.refl (H : Hp) (d : HR) : HX H H d d := ⟨fun _ _ _ e => e, fun _ h => .inl h, fun _ h => .inl h, fun _ h => h, rfl⟩
theorem HX.trans {H H1 H2 : Hp} {d d1 d2 : HR} (a : HX H H1 d d1) (b : HX H1 H2 d1 d2) : HX H H2 d d2 := by
  have no : ∀ c, H1 c = none → H c = none := fun c e => Classical.byContradiction fun z => a.al c z e
  refine ⟨fun c u n e => b.fr c u (fun z => ?_) (a.fr c u n e), fun c hc => ?_, fun c hc => ?_, fun c z => b.al c (a.al c z), b.eS.trans a.eS⟩
  · rcases a.gr c z with y | y
    · exact n y
    · rw [e] at y
      cases y
  · rcases b.gr c hc with y | y
    · exact a.gr c y
    · exact .inr (no c y)
  · rcases b.ga c hc with y | y
    · exact a.ga c y
    · exact .inr (no c y)
theorem HX.same {H H1 H2 : Hp} {d d1 : HR} (a : HX H H1 d d1) (s : Same H1 H2) : HX H H2 d d1 := ⟨fun c u n e => s _ _ (a.fr c u n e), a.gr, a.ga, fun c z e => (by
  cases h : H1 c with
  | none => exact a.al c z h
  | some u =>
    rw [s _ _ h] at e
    cases e), a.eS⟩
theorem HX.tup {C : Addr} {H H' : Hp} {ps : List Int} {d d' : HR} (h : House C H ps d) (a : HX H H' d d') : TupS H H' := fun b xs e => a.fr b _ (fun z => by
  rcases List.mem_cons.mp z with z | z
  · rw [z, h.eS] at e
    cases e
  · obtain ⟨u, hu, hn⟩ := h.W.has z
    rw [e] at hu
    exact hn xs (Option.some.inj hu).symm) e
theorem HX.set {H H' : Hp} {d d' : HR} (s : ∀ b u, b ≠ d.S → H b = some u → H' b = some u) (e : H' d.S ≠ none) (ex : d'.x = d.x) (eS : d'.S = d.S) (hR : d'.R = d.R ∨ H d'.R = none) (hA : d'.A = d.A ∨ H d'.A = none) : HX H H' d d' := by
  have em : mutH d' = mutH d := by
    unfold mutH
    rw [ex, eS]
  refine ⟨fun b u n h => s b u (fun z => n (by rw [z]; exact List.mem_cons_self)) h, fun b hb => .inl (em ▸ hb), fun b hb => ?_, fun b z y => ?_, eS⟩
  · rcases List.mem_cons.mp hb with z | z
    · rcases hR with y | y
      · exact .inl (by rw [z, y]; simp [allH])
      · exact .inr (by rw [z]; exact y)
    · rcases List.mem_cons.mp z with z | z
      · rcases hA with y | y
        · exact .inl (by rw [z, y]; simp [allH])
        · exact .inr (by rw [z]; exact y)
      · exact .inl (mut_all (em ▸ z))
  · by_cases hS : b = d.S
    · rw [hS] at y
      exact e y
    · cases h : H b with
      | none => exact z h
      | some u =>
        rw [s b u hS h] at y
        cases y
/-- the object alone changed -/
theorem HX.obj {C : Addr} {H H' : Hp} {d : HR} {uS : HO} (nS : d.S ∉ d.x.m) (eS : H d.S = some uS) {ks' : List Int} {h' : Int → Int} {la' : Int → Addr} {s' : Nat} {rs' : List Lim} (f : FrW d.x.o d.x.w d.x.ks d.x.la H H') (sb : ∀ p ∈ d.x.ks, p ∈ ks' ∧ la' p = d.x.la p) (fresh : ∀ p ∈ ks', p ∉ d.x.ks → H (la' p) = none) (W' : WyC C H' d.x.o d.x.w ks' h' la' rs' s') (d' : HR) (e : d' = { d with x := ⟨d.x.o, d.x.w, ks', h', la', s'⟩ }) : HX H H' d d' ∧ d.S ∉ d'.x.m ∧ (∀ b, b ∉ mutH d → H b ≠ none → b ∉ mutH d') := by
  subst e
  have hm : ∀ b, b ∈ mutW d.x.o d.x.w ks' la' → b ∈ d.x.m ∨ H b = none := fun b hb => by
    unfold WO.m
    simp only [mutW, List.mem_cons, List.mem_map] at hb ⊢
    rcases hb with z | z | z | z | ⟨p, hp, z⟩
    · exact .inl (.inl z)
    · exact .inl (.inr (.inl z))
    · exact .inl (.inr (.inr (.inl z)))
    · exact .inl (.inr (.inr (.inr (.inl z))))
    · by_cases hk2 : p ∈ d.x.ks
      · exact .inl (.inr (.inr (.inr (.inr ⟨p, hk2, by rw [← (sb p hk2).2]; exact z⟩))))
      · exact .inr (by rw [← z]; exact fresh p hp hk2)
  have hb : ∀ b, b ∈ d.x.m → b ∈ mutW d.x.o d.x.w ks' la' := fun b hb => by
    unfold WO.m at hb
    simp only [mutW, List.mem_cons, List.mem_map] at hb ⊢
    rcases hb with z | z | z | z | ⟨p, hp, z⟩
    · exact .inl z
    · exact .inr (.inl z)
    · exact .inr (.inr (.inl z))
    · exact .inr (.inr (.inr (.inl z)))
    · exact .inr (.inr (.inr (.inr ⟨p, (sb p hp).1, by rw [(sb p hp).2]; exact z⟩)))
  have hg : ∀ b ∈ mutH { d with x := ⟨d.x.o, d.x.w, ks', h', la', s'⟩ }, b ∈ mutH d ∨ H b = none := fun b z => by
    rcases List.mem_cons.mp z with z | z
    · exact .inl (by rw [z]; exact List.mem_cons_self)
    · rcases hm b z with z | z
      · exact .inl (List.mem_cons_of_mem _ z)
      · exact .inr z
  refine ⟨⟨fun b u n e => f b u (fun z => n (List.mem_cons_of_mem _ z)) e, hg, fun b z => ?_, fun b z e => ?_, rfl⟩, fun z => ?_, fun b n z y => ?_⟩
  · rcases List.mem_cons.mp z with z | z
    · exact .inl (by rw [z]; exact List.mem_cons_self)
    · rcases List.mem_cons.mp z with z | z
      · exact .inl (by rw [z]; simp [allH])
      · rcases hg b z with z | z
        · exact .inl (mut_all z)
        · exact .inr z
  · by_cases hbm : b ∈ d.x.m
    · obtain ⟨u, hu, _⟩ := W'.has (hb b hbm)
      rw [e] at hu
      cases hu
    · cases h : H b with
      | none => exact z h
      | some u =>
        rw [f b u hbm h] at e
        cases e
  · rcases hm _ z with y | y
    · exact nS y
    · rw [eS] at y
      cases y
  · rcases hg b y with y | y
    · exact n y
    · exact z y
end L


namespace L
open PySem PySem.Spec PyProof.Rows L2 Z M WY HQ
section
variable {P : Program} {w' : World} {K : PySem.W.Frag} {mg : Str → Option Value} {base : Heap}
theorem w_sset {H : Hp} {R : Hp → Prop} {S : Addr} {xs ys : List V} {n : Nat} {v : V} (h : H S = some (.lst xs)) (hn : n < xs.length) (e : xs.set n v = ys) (q : R (upd H S (.lst ys))) : rSetL (.ref S) (.int (n : Int)) v H R := by
  refine ⟨S, _, _, n, rfl, rfl, h, ?_, by rw [e]; exact q⟩
  unfold ixN
  rw [if_pos (by omega), if_pos (by omega)]
  rfl
theorem w_methE {C : Addr} {m : Str} {sp : Sp} {E : XK} {ta : TE} {t : TA} {σ : L2.St} {H : Hp} {Q : VK} (h : ta σ H fun x H1 => ∃ a dx fs, x = .ref a ∧ H1 a = some (.ins C dx fs) ∧ fs.lookup m = none ∧ t σ H1 fun vs H2 => sp (x :: (vs ++ [])) H2 Q E) : tMeth C m sp [] E ta t σ H Q := h
theorem take_all2 {a b : Int} : [a, b].take [V.int a, V.int b].length = [a, b] := rfl
def spAdd (C : Addr) : Sp := fun vs H Q _ => ∃ (d : HR) (ps : List Int) (t : Addr) (r : Lim), vs = [.ref d.S, .ref t] ∧ House C H ps d ∧ H t = some (.tup (limT r)) ∧ lx r ∈ ps ∧ ly r ∈ ps ∧ d.rs.length < 200 ∧ ps.length < 64 ∧ LabJ (d.rs ++ [r]) ∧
  ∀ H' d', House C H' ps d' → HX H H' d d' → d'.rs = d.rs ++ [r] → Q (.bl true) H'
theorem ok_add (T : Txt K mg) : FnOk P w' K mg base CX0 2 T.f_add T.fd_add ["_law_house", "_law_row"] (spAdd T.C_Ways) := by
  have G_Ways_limit := ok_limit (P := P) (w' := w') (base := base) T
  refine T.F_add.ok sc_add (fun vs H Q E h => ?_) (fun cdv A outer s0 H vs Q E hr h => ?_)
  · obtain ⟨d, ps, t, r, rfl, _⟩ := h
    rfl
  · obtain ⟨d, ps, t, r, rfl, hd, ht, hx, hy, hl, hps, hlab, h⟩ := h
    have ht' := ht
    unfold limT at ht'
    have hSS : SqL K H d.S d.fs := .inl (.inl hd.eS)
    have a1 : atI d.fs 1 = some (.ref d.R) := rfl
    refine ⟨_, (pss_cons (ps_asg (pe_op op_cat (pe_ix ix_list (pv 0) pe_int (fun _ _ => rfl)) (pe_lst (pa_cons (pv 1) pa_nil))) (pg_sub (pv 0) pe_int set_list))
 (pss_cons (ps_asg pe_bl (pg_sub (pv 0) pe_int set_list))
 (pss_cons (ps_for PassesOwn.never rfl (pi_tup (pe_tup (pa_cons (pe_ix ix_tup (pv 1) pe_int (fun _ _ => rfl)) (pa_cons (pe_ix ix_tup (pv 1) pe_int (fun _ _ => rfl)) pa_nil)))) (pg_name (i := 2) sc_add.nd rfl (.inl rfl)) (pss_one (ps_if (pt_cmpR op_notIn_seq (pv 2) (pe_ix ix_list (pv 0) pe_int (fun _ _ => rfl)) rfl) (pss_one (ps_asg (pe_op op_cat (pe_ix ix_list (pv 0) pe_int (fun _ _ => rfl)) (pe_lst (pa_cons (pv 2) pa_nil))) (pg_sub (pv 0) pe_int set_list))) pss_nil)))
 (pss_one (ps_ret (pe_cmpR op_isN (pe_meth (pe_ix ix_list (pv 0) pe_int (fun _ _ => rfl)) T.cl_Ways T.M_Ways_limit G_Ways_limit (hr.mono (by first | decide | omega)) T.b_Ways_limit .nil pass0 (pa_cons (pe_ix ix_tup (pv 1) pe_int (fun _ _ => rfl)) (pa_cons (pe_ix ix_tup (pv 1) pe_int (fun _ _ => rfl)) (pa_cons (pe_ix ix_tup (pv 1) pe_int (fun _ _ => rfl)) (pa_cons (pe_ix ix_tup (pv 1) pe_int (fun _ _ => rfl)) pa_nil))))) pe_non (nomark _))))))), ?_⟩
    refine Z.w_start (σ' := [some (.ref d.S), some (.ref t), none]) rfl ?_
    walk_at "w"
    rename_i p1 f1
    have hbl : d.us.length < 200 := by rw [hd.lv.1]; exact hl
    have s1 := same_of (Same.refl H) f1 (o := .lst [.ref t])
    have e1 : (upd H p1 (.lst [.ref t])) p1 = some (.lst [.ref t]) := upd_same
    generalize upd H p1 (.lst [.ref t]) = H1 at *
    refine ⟨d.R, p1, d.us, [.ref t], rfl, rfl, s1 _ _ hd.eR, e1, Nat.le_trans (show d.us.length + 1 ≤ 300 by omega) (by decide), fun R f2 => ?_⟩
    have fR := fresh_of1 s1 f2
    have s2 := same_of s1 f2 (o := .lst (d.us ++ [.ref t]))
    have eR : (upd H1 R (.lst (d.us ++ [.ref t]))) R = some (.lst (d.us ++ [.ref t])) := upd_same
    generalize upd H1 R (.lst (d.us ++ [.ref t])) = H2 at *
    clear e1 f1
    walk_at "w"
    have nRS : R ≠ d.S := fun z => by rw [z, hd.eS] at fR; cases fR
    refine w_sset (n := 1) (s2 _ _ hd.eS) (show 1 < 5 by decide) (ys := [.ref d.x.o, .ref R, .ref d.A, .bl d.b3, .bl d.b4]) rfl ?_
    have st3 : ∀ b u, b ≠ d.S → H2 b = some u → (upd H2 d.S (.lst [.ref d.x.o, .ref R, .ref d.A, .bl d.b3, .bl d.b4])) b = some u := fun b u n e => by rw [upd_ne n]; exact e
    have eS3 : (upd H2 d.S (.lst [.ref d.x.o, .ref R, .ref d.A, .bl d.b3, .bl d.b4])) d.S = some (.lst [.ref d.x.o, .ref R, .ref d.A, .bl d.b3, .bl d.b4]) := upd_same
    generalize upd H2 d.S (.lst [.ref d.x.o, .ref R, .ref d.A, .bl d.b3, .bl d.b4]) = H3 at *
    walk_at "w"
    have st4 : ∀ b u, b ≠ d.S → H b = some u → (upd H3 d.S (.lst [.ref d.x.o, .ref R, .ref d.A, .bl false, .bl d.b4])) b = some u := fun b u n e => by rw [upd_ne n]; exact st3 _ _ n (s2 _ _ e)
    have eR4 : (upd H3 d.S (.lst [.ref d.x.o, .ref R, .ref d.A, .bl false, .bl d.b4])) R = some (.lst (d.us ++ [.ref t])) := by rw [upd_ne nRS]; exact st3 _ _ nRS eR
    have eS4 : (upd H3 d.S (.lst [.ref d.x.o, .ref R, .ref d.A, .bl false, .bl d.b4])) d.S = some (.lst [.ref d.x.o, .ref R, .ref d.A, .bl false, .bl d.b4]) := upd_same
    generalize upd H3 d.S (.lst [.ref d.x.o, .ref R, .ref d.A, .bl false, .bl d.b4]) = H4 at *
    clear st3 eS3 eR s1 s2
    have ntS : t ≠ d.S := fun z => by rw [z, hd.eS] at ht; cases ht
    have ht4 := st4 _ _ ntS ht'
    walk_at "w"
    rename_i tp ftp
    have s5 := same_of (Same.refl H4) ftp (o := .tup [.int (lx r), .int (ly r)])
    have e5 : (upd H4 tp (.tup [.int (lx r), .int (ly r)])) tp = some (.tup [.int (lx r), .int (ly r)]) := upd_same
    generalize upd H4 tp (.tup [.int (lx r), .int (ly r)]) = H5 at *
    have nAS : d.A ≠ d.S := fun z => hd.nA (by rw [z]; exact List.mem_cons_self)
    refine for_tup (K := K) (xs := [V.int (lx r), V.int (ly r)]) (fun i σ H' => ∃ (x2 : Option V) (A' : Addr) (as' : List Int), σ = [some (.ref d.S), some (.ref t), x2] ∧ (∀ b u, b ≠ d.S → H5 b = some u → H' b = some u) ∧ H' d.S = some (.lst [.ref d.x.o, .ref R, .ref A', .bl false, .bl d.b4]) ∧ (A' = d.A ∨ H A' = none) ∧ A' ≠ d.S ∧ H' A' = some (.lst (as'.map V.int)) ∧ as'.Nodup ∧ (∀ z, z ∈ as' ↔ z ∈ d.as ∨ z ∈ [lx r, ly r].take i)) ?_ ?_ ?_ ?_
    · exact ⟨none, d.A, d.as, rfl, fun b u _ e => e, s5 _ _ eS4, .inl rfl, nAS, s5 _ _ (st4 _ _ nAS hd.eA), hd.nd, fun z => by simp⟩
    · rintro i σ H' hi ⟨x2, A', as', rfl, st, _⟩
      exact .inl (.inl (st _ _ (fun z => by rw [z] at ftp; rw [eS4] at ftp; cases ftp) e5))
    · rintro i v σ H' hv ⟨x2, A', as', rfl, st, eS', hA', nA', eA', nd', mm'⟩
      have hi := (List.getElem?_eq_some_iff.mp hv).1
      obtain ⟨z, rfl, hz, htk⟩ : ∃ z, v = V.int z ∧ z ∈ ps ∧ [lx r, ly r].take (i + 1) = [lx r, ly r].take i ++ [z] := by
        have : i = 0 ∨ i = 1 := by
          simp only [List.length_cons, List.length_nil] at hi
          omega
        rcases this with rfl | rfl
        · exact ⟨lx r, (Option.some.inj hv).symm, hx, rfl⟩
        · exact ⟨ly r, (Option.some.inj hv).symm, hy, rfl⟩
      have hsub : ∀ y ∈ as', y ∈ ps := fun y hy' => by
        rcases (mm' y).mp hy' with e | e
        · exact hd.sub y ((hd.ma y).mp e)
        · have : y = lx r ∨ y = ly r := by
            have := List.mem_of_mem_take e
            simpa using this
          rcases this with rfl | rfl <;> assumption
      have hlen : as'.length < 64 := Nat.lt_of_le_of_lt (List.Nodup.length_le_of_subset nd' hsub) hps
      have hSS' : SqL K H' d.S [.ref d.x.o, .ref R, .ref A', .bl false, .bl d.b4] := .inl (.inl eS')
      have a2 : atI [V.ref d.x.o, .ref R, .ref A', .bl false, .bl d.b4] 2 = some (.ref A') := rfl
      walk_at "w"
      refine w_ninI (.inl (.inl eA')) ?_
      by_cases hin : z ∈ as'
      · rw [decide_eq_true hin]
        walk_at "w"
        refine ⟨_, A', as', rfl, st, eS', hA', nA', eA', nd', fun y => ?_⟩
        rw [mm', htk, List.mem_append, List.mem_singleton, ← or_assoc, ← mm' y]
        exact ⟨fun e => .inl e, fun e => e.elim id fun e => by rw [e]; exact hin⟩
      · rw [decide_eq_false hin]
        walk_at "w"
        rename_i p6 f6
        have s6 := same_of (Same.refl H') f6 (o := .lst [.int z])
        have e6 : (upd H' p6 (.lst [.int z])) p6 = some (.lst [.int z]) := upd_same
        generalize upd H' p6 (.lst [.int z]) = H6 at *
        refine ⟨A', p6, as'.map V.int, [.int z], rfl, rfl, s6 _ _ eA', e6, by rw [List.length_map]; exact Nat.le_trans (show as'.length + 1 ≤ 300 by omega) (by decide), fun B f7 => ?_⟩
        have fB := fresh_of1 s6 f7
        have s7 := same_of s6 f7 (o := .lst (as'.map V.int ++ [.int z]))
        have e7 : (upd H6 B (.lst (as'.map V.int ++ [.int z]))) B = some (.lst ((as' ++ [z]).map V.int)) := by rw [upd_same, List.map_append]; rfl
        generalize upd H6 B (.lst (as'.map V.int ++ [.int z])) = H7 at *
        have eS7 := s7 _ _ eS'
        have nBS : B ≠ d.S := fun y => by rw [y, eS'] at fB; cases fB
        walk_at "w"
        have st8 : ∀ b u, b ≠ d.S → H7 b = some u → (upd H7 d.S (.lst [.ref d.x.o, .ref R, .ref B, .bl false, .bl d.b4])) b = some u := fun b u n e => by rw [upd_ne n]; exact e
        have fBH : H B = none := by
          cases e : H B with
          | none => rfl
          | some u =>
            rw [st _ _ nBS (s5 _ _ (st4 _ _ nBS e))] at fB
            cases fB
        refine ⟨_, B, as' ++ [z], rfl, fun b u n e => st8 b u n (s7 _ _ (st b u n e)), upd_same, .inr fBH, nBS, st8 _ _ nBS e7, ?_, fun y => ?_⟩
        · rw [List.nodup_append]
          refine ⟨nd', by simp, fun a ha b hb e => ?_⟩
          rw [List.mem_singleton.mp hb] at e
          rw [e] at ha
          exact hin ha
        · rw [List.mem_append, mm', htk, List.mem_append, or_assoc]
    · rintro σ H' ⟨x2, A', as', rfl, st, eS', hA', nA', eA', nd', mm'⟩
      have hSS' : SqL K H' d.S [.ref d.x.o, .ref R, .ref A', .bl false, .bl d.b4] := .inl (.inl eS')
      have a0 : atI [V.ref d.x.o, .ref R, .ref A', .bl false, .bl d.b4] 0 = some (.ref d.x.o) := rfl
      have stH : ∀ b u, b ≠ d.S → H b = some u → H' b = some u := fun b u n e => st b u n (s5 _ _ (st4 b u n e))
      have tpH : TupS H H' := fun b xs e => stH b _ (fun z => by rw [z, hd.eS] at e; cases e) e
      have W' := hd.W.same (fun b u hb e => stH b u (fun z => hd.nS (by rw [← z]; exact hb)) e) tpH
      have ht9 := tpH _ _ ht'
      walk_at "w"
      refine w_methE ?_
      walk_at "w"
      refine ⟨d.x.o, d.x.w.dx, _, rfl, W'.ob, (by rfl), ?_⟩
      walk_at "w"
      have hks : d.x.ks.length < 64 := Nat.lt_of_le_of_lt (List.Nodup.length_le_of_subset hd.W.nd hd.sub) hps
      refine ⟨d.x.o, d.x.w, d.x.ks, d.x.h, d.x.la, d.rs, d.x.s, r, rfl, W', hd.pl, by omega, by omega, fun H9 ks' h' la' g pl' hk' hl' => ?_⟩
      walk_at "w"
      rw [take_all2] at mm'
      have eR9 : H9 R = some (.lst (d.us ++ [.ref t])) := g.fr _ _ (fun z => by
        obtain ⟨u, hu, _⟩ := hd.W.has z
        rw [fR] at hu
        cases hu) (st _ _ nRS (s5 _ _ eR4))
      have nAm : A' ∉ d.x.m := fun z => by
        rcases hA' with e | e
        · rw [e] at z
          exact hd.nA (List.mem_cons_of_mem _ z)
        · obtain ⟨u, hu, _⟩ := hd.W.has z
          rw [e] at hu
          cases hu
      have hxS : HX H H' d { d with R := R, A := A', us := d.us ++ [.ref t], as := as', b3 := false } := HX.set stH (by rw [eS']; simp) rfl rfl (.inr fR) hA'
      obtain ⟨hxO, n1, n2⟩ := HX.obj (d := { d with R := R, A := A', us := d.us ++ [.ref t], as := as', b3 := false }) hd.nS eS' g.fr (fun p hp => ⟨g.sub p hp, g.la p hp⟩) g.fresh g.W { S := d.S, R := R, A := A', x := ⟨d.x.o, d.x.w, ks', h', la', d.x.s⟩, us := d.us ++ [.ref t], rs := d.rs, as := as', b3 := false, b4 := d.b4 } rfl
      have tp9 : TupS H H9 := tpH.trans (W'.tupS g.fr)
      refine h H9 { S := d.S, R := R, A := A', x := ⟨d.x.o, d.x.w, ks', h', la', d.x.s⟩, us := d.us ++ [.ref t], rs := d.rs ++ [r], as := as', b3 := false, b4 := d.b4 } ⟨g.W, pl', g.fr _ _ hd.nS eS', eR9, (hd.lv.tup tp9).snoc (tp9 _ _ ht), g.fr _ _ nAm eA', nd', fun z => ?_, n1, ?_, ?_, fun z hz => ?_, (fun e => by cases e), hlab⟩ ⟨(hxS.trans hxO).fr, (hxS.trans hxO).gr, (hxS.trans hxO).ga, (hxS.trans hxO).al, rfl⟩ rfl
      · rw [mm' z, hd.ma z]
        constructor
        · rintro (e | e)
          · exact g.sub z e
          · have : z = lx r ∨ z = ly r := by simpa using e
            have pr := pl' r (List.mem_append_right _ (List.mem_singleton.mpr rfl))
            rcases this with rfl | rfl
            · exact pr.1
            · exact pr.2
        · intro e
          rcases hk' z e with e | e | e
          · exact .inl e
          · exact .inr (by simp [e])
          · exact .inr (by simp [e])
      · refine n2 R (fun z => ?_) (by rw [st _ _ nRS (s5 _ _ eR4)]; simp)
        rcases List.mem_cons.mp z with z | z
        · exact nRS z
        · obtain ⟨u, hu, _⟩ := hd.W.has z
          rw [fR] at hu
          cases hu
      · refine n2 A' (fun z => ?_) (by rw [eA']; simp)
        rcases List.mem_cons.mp z with z | z
        · exact nA' z
        · exact nAm z
      · rcases hk' z hz with e | e | e
        · exact hd.sub z e
        · rw [e]; exact hx
        · rw [e]; exact hy
end
end L


namespace L
open PySem PySem.Spec PyProof.Rows L2 Z M WY HQ
section
variable {P : Program} {w' : World} {K : PySem.W.Frag} {mg : Str → Option Value} {base : Heap}
theorem LimV.take {H : Hp} {us : List V} {rs : List Lim} (h : LimV H us rs) (c : Nat) : LimV H (us.take c) (rs.take c) := by
  refine ⟨by rw [List.length_take, List.length_take, h.1], fun i x hx => ?_⟩
  rw [List.getElem?_take] at hx
  split at hx
  · rename_i hi
    obtain ⟨t, h1, h2⟩ := h.2 i x hx
    exact ⟨t, by rw [List.getElem?_take, if_pos hi]; exact h1, h2⟩
  · cases hx
/-- the object changed within, with the same places -/
theorem House.inner {C : Addr} {H H' : Hp} {ps : List Int} {d : HR} (hd : House C H ps d) (f : FrW d.x.o d.x.w d.x.ks d.x.la H H') {h' : Int → Int} {s' : Nat} (W' : WyC C H' d.x.o d.x.w d.x.ks h' d.x.la d.rs s') (d' : HR) (e : d' = { d with x := ⟨d.x.o, d.x.w, d.x.ks, h', d.x.la, s'⟩ }) (h3 : d.b3 = true → s' = d.rs.length) : House C H' ps d' ∧ HX H H' d d' := by
  have k := HX.obj hd.nS hd.eS f (fun p hp => ⟨hp, rfl⟩) (fun p hp n => absurd hp n) W' d' e
  subst e
  have t := hd.W.tupS f
  have nR : d.R ∉ d.x.m := fun z => hd.nR (List.mem_cons_of_mem _ z)
  have nA : d.A ∉ d.x.m := fun z => hd.nA (List.mem_cons_of_mem _ z)
  exact ⟨⟨W', hd.pl, f _ _ hd.nS hd.eS, f _ _ nR hd.eR, hd.lv.tup t, f _ _ nA hd.eA, hd.nd, hd.ma, hd.nS, hd.nR, hd.nA, hd.sub, h3, hd.lab⟩, k.1⟩
theorem House.stS {C : Addr} {H H1 : Hp} {ps : List Int} {d : HR} (hd : House C H ps d) (st : ∀ b u, b ≠ d.S → H b = some u → H1 b = some u) : TupS H H1 ∧ WyC C H1 d.x.o d.x.w d.x.ks d.x.h d.x.la d.rs d.x.s := by
  have t : TupS H H1 := fun b xs e => st b _ (fun z => by rw [z, hd.eS] at e; cases e) e
  exact ⟨t, hd.W.same (fun b u hb e => st b u (fun z => hd.nS (by rw [← z]; exact hb)) e) t⟩
theorem House.back {C : Addr} {H H1 : Hp} {ps : List Int} {d : HR} {c : Nat} {R' : Addr} {Q' : VK} {E' : XK} (hd : House C H ps d) (st : ∀ b u, b ≠ d.S → H b = some u → H1 b = some u) (eS1 : H1 d.S = some (.lst [.ref d.x.o, .ref R', .ref d.A, .bl d.b3, .bl d.b4])) (eR1 : H1 R' = some (.lst (d.us.take c))) (hR' : R' = d.R ∨ H R' = none)
    (q : ∀ H2 d', House C H2 ps d' → HX H H2 d d' → d'.rs = d.rs.take c → Q' .non H2) : spBack C [.ref d.x.o, .int (c : Int)] H1 Q' E' := by
  obtain ⟨t1, W1⟩ := hd.stS st
  refine ⟨d.x.o, d.x.w, d.x.ks, d.x.h, d.x.la, d.rs, d.x.s, c, rfl, W1, hd.pl, fun H2 f W2 => ?_⟩
  have hxS : HX H H1 d { d with R := R', us := d.us.take c } := HX.set st (by rw [eS1]; simp) rfl rfl hR' (.inl rfl)
  have hxO := (HX.obj (d := { d with R := R', us := d.us.take c }) hd.nS eS1 f (fun p hp => ⟨hp, rfl⟩) (fun p hp n => absurd hp n) W2 { S := d.S, R := R', A := d.A, x := ⟨d.x.o, d.x.w, d.x.ks, d.x.h, d.x.la, min d.x.s (d.rs.take c).length⟩, us := d.us.take c, rs := d.rs, as := d.as, b3 := d.b3, b4 := d.b4 } rfl).1
  have hx := hxS.trans hxO
  have t2 := t1.trans (W1.tupS f)
  have nS := hd.nS
  have nRS : R' ≠ d.S := by
    rcases hR' with e | e
    · rw [e]
      exact fun z => hd.nR (by rw [z]; exact List.mem_cons_self)
    · exact fun z => by rw [z, hd.eS] at e; cases e
  have nRm : R' ∉ d.x.m := fun z => by
    rcases hR' with e | e
    · rw [e] at z
      exact hd.nR (List.mem_cons_of_mem _ z)
    · obtain ⟨u, hu, _⟩ := hd.W.has z
      rw [e] at hu
      cases hu
  have nAS : d.A ≠ d.S := fun z => hd.nA (by rw [z]; exact List.mem_cons_self)
  have nAm : d.A ∉ d.x.m := fun z => hd.nA (List.mem_cons_of_mem _ z)
  refine q H2 { S := d.S, R := R', A := d.A, x := ⟨d.x.o, d.x.w, d.x.ks, d.x.h, d.x.la, min d.x.s (d.rs.take c).length⟩, us := d.us.take c, rs := d.rs.take c, as := d.as, b3 := d.b3, b4 := d.b4 } ⟨W2, fun r hr => hd.pl r (List.mem_of_mem_take hr), f _ _ nS eS1, f _ _ nRm eR1, (hd.lv.tup t2).take c, f _ _ nAm (st _ _ nAS hd.eA), hd.nd, hd.ma, hd.nS, fun z => ?_, hd.nA, hd.sub, fun e => ?_, hd.lab.take c⟩ ⟨hx.fr, hx.gr, hx.ga, hx.al, rfl⟩ rfl
  · rcases List.mem_cons.mp z with z | z
    · exact nRS z
    · exact nRm z
  · have := hd.s3 e
    show min d.x.s (d.rs.take c).length = (d.rs.take c).length
    rw [List.length_take]
    omega
def spHB (C : Addr) : Sp := fun vs H Q _ => ∃ (d : HR) (ps : List Int) (c : Nat), vs = [.ref d.S, .int (c : Int)] ∧ House C H ps d ∧ ∀ H' d', House C H' ps d' → HX H H' d d' → d'.rs = d.rs.take c → Q (.bl true) H'
theorem ok_hback (T : Txt K mg) : FnOk P w' K mg base CX0 2 T.f_back T.fd_back ["_law_house", "_law_count"] (spHB T.C_Ways) := by
  have G_Ways_back := ok_back (P := P) (w' := w') (base := base) T
  refine T.F_back.ok sc_back (fun vs H Q E h => ?_) (fun cdv A outer s0 H vs Q E hr h => ?_)
  · obtain ⟨d, ps, c, rfl, _⟩ := h
    rfl
  · obtain ⟨d, ps, c, rfl, hd, h⟩ := h
    have hSS : SqL K H d.S d.fs := .inl (.inl hd.eS)
    have a1 : atI d.fs 1 = some (.ref d.R) := rfl
    have hul := hd.lv.1
    have eR := hd.eR
    refine ⟨_, (pss_cons (ps_if (pt_cmpR op_lt (pv 1) (pe_callB call_len_seq (by rfl) T.m_len (by decide +kernel) (pa_cons (pe_ix ix_list (pv 0) pe_int (fun _ _ => rfl)) pa_nil)) (nomark _)) (pss_one (ps_asg (pe_slice sl_list (pe_ix ix_list (pv 0) pe_int (fun _ _ => rfl)) po_none (po_some (pv 1))) (pg_sub (pv 0) pe_int set_list))) pss_nil)
 (pss_one (ps_ret (pe_cmpR op_isN (pe_meth (pe_ix ix_list (pv 0) pe_int (fun _ _ => rfl)) T.cl_Ways T.M_Ways_back G_Ways_back (hr.mono (by first | decide | omega)) T.b_Ways_back .nil pass0 (pa_cons (pv 1) pa_nil)) pe_non (nomark _))))), ?_⟩
    refine Z.w_start (σ' := [some (.ref d.S), some (.int (c:Int))]) rfl ?_
    by_cases hc : c < d.us.length
    · walk_at "w"
      refine w_slTo (s := c) (.inl (.inl hd.eR)) (by omega) fun p fp => ?_
      have s1 := same_of (Same.refl H) fp (o := .lst (d.us.take c))
      have ep : (upd H p (.lst (d.us.take c))) p = some (.lst (d.us.take c)) := upd_same
      generalize upd H p (.lst (d.us.take c)) = H1 at *
      have npS : p ≠ d.S := fun z => by rw [z, hd.eS] at fp; cases fp
      walk_at "w"
      refine w_sset (n := 1) (s1 _ _ hd.eS) (show 1 < 5 by decide) (ys := [.ref d.x.o, .ref p, .ref d.A, .bl d.b3, .bl d.b4]) rfl ?_
      have eS2 : (upd H1 d.S (.lst [.ref d.x.o, .ref p, .ref d.A, .bl d.b3, .bl d.b4])) d.S = some (.lst [.ref d.x.o, .ref p, .ref d.A, .bl d.b3, .bl d.b4]) := upd_same
      have st2 : ∀ b u, b ≠ d.S → H1 b = some u → (upd H1 d.S (.lst [.ref d.x.o, .ref p, .ref d.A, .bl d.b3, .bl d.b4])) b = some u := fun b u n e => by rw [upd_ne n]; exact e
      generalize upd H1 d.S (.lst [.ref d.x.o, .ref p, .ref d.A, .bl d.b3, .bl d.b4]) = H2 at *
      have st : ∀ b u, b ≠ d.S → H b = some u → H2 b = some u := fun b u n e => st2 _ _ n (s1 _ _ e)
      have hS2 : SqL K H2 d.S [.ref d.x.o, .ref p, .ref d.A, .bl d.b3, .bl d.b4] := .inl (.inl eS2)
      have a0 : atI [V.ref d.x.o, .ref p, .ref d.A, .bl d.b3, .bl d.b4] 0 = some (.ref d.x.o) := rfl
      walk_at "w"
      refine w_methE ?_
      walk_at "w"
      refine ⟨d.x.o, d.x.w.dx, _, rfl, (hd.stS st).2.ob, (by rfl), ?_⟩
      walk_at "w"
      refine hd.back st eS2 (st2 _ _ npS ep) (.inr fp) fun H3 d' hd' hx' e' => ?_
      walk_at "w"
      exact h H3 d' hd' hx' e'
    · walk_at "w"
      have a0 : atI d.fs 0 = some (.ref d.x.o) := rfl
      refine w_methE ?_
      walk_at "w"
      refine ⟨d.x.o, d.x.w.dx, _, rfl, hd.W.ob, (by rfl), ?_⟩
      walk_at "w"
      refine hd.back (fun b u _ e => e) hd.eS (by rw [List.take_of_length_le (by omega)]; exact hd.eR) (.inl rfl) fun H3 d' hd' hx' e' => ?_
      walk_at "w"
      exact h H3 d' hd' hx' e'
end
end L


namespace L
open PySem PySem.Spec PyProof.Rows L2 Z M WY HQ
section
variable {P : Program} {w' : World} {K : PySem.W.Frag} {mg : Str → Option Value} {base : Heap}
def spHS (C : Addr) : Sp := fun vs H Q _ => ∃ (d : HR) (A0 : Addr) (ps : List Int), vs = [.ref d.S, .ref A0] ∧ House C H ps d ∧ H A0 = some (.lst (ps.map V.int)) ∧ ps.Nodup ∧ ps.length < 64 ∧ A0 ∉ mutH d ∧ d.rs.length ≤ 1000 ∧ ∀ H' d', House C H' ps d' → HX H H' d d' → d'.rs = d.rs → (d'.b3 = true ↔ ∃ g, FeasL d.rs g) → Q (.bl true) H'
theorem ok_hsettle (T : Txt K mg) : FnOk P w' K mg base CX0 5 T.f_settle T.fd_settle ["_law_house", "_law_places_here"] (spHS T.C_Ways) := by
  have G_ring := ok_Lring (P := P) (w' := w') (base := base) T
  have G_heights := ok_BF (P := P) (w' := w') (base := base) T
  have G_Ways_settle := ok_settle (P := P) (w' := w') (base := base) T
  refine T.F_settle.ok sc_settle (fun vs H Q E h => ?_) (fun cdv A outer s0 H vs Q E hr h => ?_)
  · obtain ⟨d, A0, ps, rfl, _⟩ := h
    rfl
  · obtain ⟨d, A0, ps, rfl, hd, hA, nd, hps, nA0, hsz, h⟩ := h
    have hSS : SqL K H d.S d.fs := .inl (.inl hd.eS)
    have a1 : atI d.fs 1 = some (.ref d.R) := rfl
    have hul := hd.lv.1
    have hpl : ∀ r ∈ d.rs, lx r ∈ ps ∧ ly r ∈ ps := fun r hr => ⟨hd.sub _ (hd.pl r hr).1, hd.sub _ (hd.pl r hr).2⟩
    refine ⟨_, (pss_cons (ps_asg (pe_call G_heights (hr.mono (by first | decide | omega)) (by rfl) T.g_heights T.F_heights.kp T.b_heights .nil pass0 (pa_cons (pe_ix ix_list (pv 0) pe_int (fun _ _ => rfl)) (pa_cons (pv 1) pa_nil))) (pg_sub (pv 0) pe_int set_list))
 (pss_cons (ps_for PassesOwn.never rfl (pi_range1 (by rfl) T.m_range (pa_cons pe_int pa_nil)) (pg_name (i := 2) sc_settle.nd rfl (.inl rfl)) (pss_cons (ps_set (i := 3) sc_settle.nd rfl (.inl rfl) (pe_meth0 (pe_ix ix_list (pv 0) pe_int (fun _ _ => rfl)) T.cl_Ways T.M_Ways_settle G_Ways_settle (hr.mono (by first | decide | omega)) T.b_Ways_settle .nil pass0))
 (pss_cons (ps_if (PW.pt (pw_and (pt_val (pe_ix ix_list (pv 0) pe_int (fun _ _ => rfl))) (pw_and1 (pt_cmpR op_notN (pv 3) pe_non (nomark _))))) (pss_one (ps_ret pe_bl)) pss_nil)
 (pss_one (ps_if (pt_not (pt_val (pe_ix ix_list (pv 0) pe_int (fun _ _ => rfl)))) (pss_cons (ps_if (pt_not (pt_val (pe_call G_ring (hr.mono (by first | decide | omega)) (by rfl) T.g_ring T.F_ring.kp T.b_ring .nil pass0 (pa_cons (pv 3) (pa_cons (pe_ix ix_list (pv 0) pe_int (fun _ _ => rfl)) pa_nil))))) (pss_one (ps_ret pe_bl)) pss_nil)
 (pss_one (ps_expr (pe_bm0 PySem.F.plainAttrs_list PySem.F.slot_list_clear PySem.F.type_list_clear mt_clear (pv 3))))) pss_nil)))))
 (pss_one (ps_ret pe_bl)))), ?_⟩
    refine Z.w_start (σ' := [some (.ref d.S), some (.ref A0), none, none]) rfl ?_
    walk_at "w"
    refine ⟨d.R, A0, d.us, d.rs, ps, rfl, hd.eR, hd.lv, hA, nd, hpl, hps, fun b H1 s1 hb => ?_⟩
    have hd1 := hd.same s1
    have hA1 := s1 _ _ hA
    walk_at "w"
    refine w_sset (n := 3) hd1.eS (show 3 < 5 by decide) (ys := [.ref d.x.o, .ref d.R, .ref d.A, .bl b, .bl d.b4]) rfl ?_
    have eS2 : (upd H1 d.S (.lst [.ref d.x.o, .ref d.R, .ref d.A, .bl b, .bl d.b4])) d.S = some (.lst [.ref d.x.o, .ref d.R, .ref d.A, .bl b, .bl d.b4]) := upd_same
    have st2 : ∀ b' u, b' ≠ d.S → H1 b' = some u → (upd H1 d.S (.lst [.ref d.x.o, .ref d.R, .ref d.A, .bl b, .bl d.b4])) b' = some u := fun b' u n e => by rw [upd_ne n]; exact e
    generalize upd H1 d.S (.lst [.ref d.x.o, .ref d.R, .ref d.A, .bl b, .bl d.b4]) = H2 at *
    obtain ⟨t2, W2⟩ := hd1.stS st2
    have hxS : HX H1 H2 d { d with b3 := b } := HX.set st2 (by rw [eS2]; simp) rfl rfl (.inl rfl) (.inl rfl)
    have nRS : d.R ≠ d.S := fun z => hd.nR (by rw [z]; exact List.mem_cons_self)
    have nRm : d.R ∉ d.x.m := fun z => hd.nR (List.mem_cons_of_mem _ z)
    have nAS : d.A ≠ d.S := fun z => hd.nA (by rw [z]; exact List.mem_cons_self)
    have nAm : d.A ∉ d.x.m := fun z => hd.nA (List.mem_cons_of_mem _ z)
    have eR2 := st2 _ _ nRS hd1.eR
    have eA2 := st2 _ _ nAS hd1.eA
    have lv2 := hd1.lv.tup t2
    walk_at "w"
    refine ⟨by decide, by decide, ?_⟩
    refine for_range (fun k σ H' => ∃ (x2 x3 : Option V) (h' : Int → Int) (s' : Nat), σ = [some (.ref d.S), some (.ref A0), x2, x3] ∧ FrW d.x.o d.x.w d.x.ks d.x.la H2 H' ∧ WyC T.C_Ways H' d.x.o d.x.w d.x.ks h' d.x.la d.rs s' ∧ (1 ≤ k → b = true → s' = d.rs.length)) ?_ ?_ ?_
    · exact ⟨none, none, d.x.h, d.x.s, rfl, .refl _, W2, fun z => absurd z (by decide)⟩
    · rintro k σ H3 hk ⟨x2, x3, h', s', rfl, fr3, W3, _⟩
      have eS3 := fr3 _ _ hd.nS eS2
      have hS3 : SqL K H3 d.S [.ref d.x.o, .ref d.R, .ref d.A, .bl b, .bl d.b4] := .inl (.inl eS3)
      have a0 : atI [V.ref d.x.o, .ref d.R, .ref d.A, .bl b, .bl d.b4] 0 = some (.ref d.x.o) := rfl
      have a3 : atI [V.ref d.x.o, .ref d.R, .ref d.A, .bl b, .bl d.b4] 3 = some (.bl b) := rfl
      have a11 : atI [V.ref d.x.o, .ref d.R, .ref d.A, .bl b, .bl d.b4] 1 = some (.ref d.R) := rfl
      walk_at "w"
      refine w_methE ?_
      walk_at "w"
      refine ⟨d.x.o, d.x.w.dx, _, rfl, W3.ob, (by rfl), ?_⟩
      walk_at "w"
      refine ⟨d.x.o, d.x.w, d.x.ks, h', d.x.la, d.rs, s', rfl, W3, hd.pl, fun p H4 ns h2 s2 fr4 W4 fp ep hpm Rg => ?_, fun H4 h2 fr4 W4 => ?_⟩
      · have frA := fr3.trans fr4
        have hbf : b = false := by
          cases hbb : b with
          | false => rfl
          | true =>
            obtain ⟨g, hg⟩ := hb.mp hbb
            exact (no_ring ((feasL_iff d.rs g).mpr hg) Rg).elim
        subst hbf
        obtain ⟨qs, RQ, el⟩ := ringQ_of Rg
        rw [el] at ep
        have eR4 := frA _ _ nRm eR2
        have lv4 := lv2.tup (W2.tupS frA)
        have eS4 := frA _ _ hd.nS eS2
        have hS4 : SqL K H4 d.S [.ref d.x.o, .ref d.R, .ref d.A, .bl false, .bl d.b4] := .inl (.inl eS4)
        walk_at "w"
        refine ⟨p, d.R, d.us, d.rs, qs, rfl, ep, eR4, lv4, hsz, hd.lab.d, RQ, fun H5 s5 => ?_⟩
        walk_at "w"
        refine Z.w_bm0 ?_
        walk_at "w"
        have ep3 := s5 _ _ ep
        refine ⟨.inl ⟨rfl, _, .inl (.inl ep3)⟩, p, _, rfl, rfl, ep3, ?_⟩
        have frB : FrW d.x.o d.x.w d.x.ks d.x.la H2 (upd H5 p (.lst [])) := fun b u n e => by
          rw [upd_ne (ne_of_none (fr3 b u n e) fp)]
          exact s5 _ _ (frA b u n e)
        have fp' : ∀ b u, b ∈ mutW d.x.o d.x.w d.x.ks d.x.la → H4 b = some u → (upd H5 p (.lst [])) b = some u := fun b u m e => by
          have : b ≠ p := fun z => hpm (by rw [← z]; exact m)
          rw [upd_ne this]
          exact s5 _ _ e
        have tpB : TupS H4 (upd H5 p (.lst [])) := fun b xs e => by
          have : b ≠ p := fun z => by
            rw [z, ep] at e
            cases e
          rw [upd_ne this]
          exact s5 _ _ e
        exact ⟨_, _, h2, s2, rfl, frB, W4.same fp' tpB, fun _ z => by cases z⟩
      · have frA := fr3.trans fr4
        have hbt : b = true := hb.mpr ⟨h2, (feasL_iff d.rs h2).mp W4.fe⟩
        subst hbt
        have eS4 := frA _ _ hd.nS eS2
        have hS4 : SqL K H4 d.S [.ref d.x.o, .ref d.R, .ref d.A, .bl true, .bl d.b4] := .inl (.inl eS4)
        walk_at "w"
        exact ⟨_, _, h2, _, rfl, frA, W4, fun _ _ => rfl⟩
    · rintro σ H3 ⟨x2, x3, h', s', rfl, fr3, W3, hs⟩
      walk_at "w"
      have hxO := (HX.obj (d := { d with b3 := b }) hd.nS eS2 fr3 (fun p hp => ⟨hp, rfl⟩) (fun p hp n => absurd hp n) W3 { S := d.S, R := d.R, A := d.A, x := ⟨d.x.o, d.x.w, d.x.ks, h', d.x.la, s'⟩, us := d.us, rs := d.rs, as := d.as, b3 := b, b4 := d.b4 } rfl).1
      have hx1 : HX H H1 d d := (HX.refl H d).same s1
      refine h H3 { S := d.S, R := d.R, A := d.A, x := ⟨d.x.o, d.x.w, d.x.ks, h', d.x.la, s'⟩, us := d.us, rs := d.rs, as := d.as, b3 := b, b4 := d.b4 } ⟨W3, hd.pl, fr3 _ _ hd.nS eS2, fr3 _ _ nRm eR2, lv2.tup (W2.tupS fr3), fr3 _ _ nAm eA2, hd.nd, hd.ma, hd.nS, hd.nR, hd.nA, hd.sub, fun e => hs (by decide) e, hd.lab⟩ ((hx1.trans hxS).trans hxO) rfl hb
end
end L


namespace L
open PySem PySem.Spec PyProof.Rows L2 Z M WY HQ
section
variable {P : Program} {w' : World} {K : PySem.W.Frag} {mg : Str → Option Value} {base : Heap}
def spLook (C : Addr) : Sp := fun vs H Q _ => ∃ (d : HR) (ps : List Int), vs = [.ref d.S] ∧ House C H ps d ∧ d.b3 = true ∧ ps.length < 64 ∧ ∀ H', Same H H' → Q (.bl true) H'
theorem ok_look (T : Txt K mg) : FnOk P w' K mg base CX0 2 T.f_look T.fd_look ["_law_house"] (spLook T.C_Ways) := by
  have G_whole := ok_whole (P := P) (w := w') (base := base) T
  have G_Ways_heights := ok_hts (P := P) (w' := w') (base := base) T
  refine T.F_look.ok sc_look (fun vs H Q E h => ?_) (fun cdv A outer s0 H vs Q E hr h => ?_)
  · obtain ⟨d, ps, rfl, _⟩ := h
    rfl
  · obtain ⟨d, ps0, rfl, hd0, hb3, hps, h⟩ := h
    have hlen0 : d.as.length < 64 := Nat.lt_of_le_of_lt (List.Nodup.length_le_of_subset hd0.nd fun z hz => hd0.sub z ((hd0.ma z).mp hz)) hps
    refine ⟨_, (pss_cons (ps_for PassesOwn.never rfl (pi_range1 (by rfl) T.m_range (pa_cons pe_int pa_nil)) (pg_name (i := 1) sc_look.nd rfl (.inl rfl)) (pss_cons (ps_set (i := 2) sc_look.nd rfl (.inr rfl) (pe_meth0 (pe_ix ix_list (pv 0) pe_int (fun _ _ => rfl)) T.cl_Ways T.M_Ways_heights G_Ways_heights (hr.mono (by first | decide | omega)) T.b_Ways_heights .nil pass0))
 (pss_cons (ps_if (PW.pt (pw_or (pt_not (pt_val (pe_callB call_isi (by rfl) T.m_isinstance (by decide +kernel) (pa_cons (pv 2) (pa_cons (pe_bltn (v := .ty "dict") (by rfl) T.m_dict (by decide +kernel) rfl) pa_nil))))) (pw_or1 (pt_cmpR (op_neD hr.units) (pe_callTy (call_listD rfl) (by rfl) T.m_list (by decide +kernel) (pa_cons (pv 2) pa_nil)) (pe_callB cr_sorted (by rfl) T.m_sorted (by decide +kernel) (pa_cons (pe_ix ix_list (pv 0) pe_int (fun _ _ => rfl)) pa_nil)) (nomark _))))) (pss_one (ps_ret pe_bl)) pss_nil)
 (pss_cons (ps_for PassesOwn.never rfl (pi_list (pe_callTy (call_listD rfl) (by rfl) T.m_list (by decide +kernel) (pa_cons (pv 2) pa_nil))) (pg_name (i := 3) sc_look.nd rfl (.inl rfl)) (pss_one (ps_if (PW.pt (pw_or (pt_not (pt_val (pe_call G_whole (hr.mono (by first | decide | omega)) (by rfl) T.g_whole T.F_whole.kp T.b_whole .nil pass0 (pa_cons (pv 3) pa_nil)))) (pw_or1 (pt_not (pt_val (pe_call G_whole (hr.mono (by first | decide | omega)) (by rfl) T.g_whole T.F_whole.kp T.b_whole .nil pass0 (pa_cons (pe_dget (hu_of hr) (pv 2) (pv 3) (fun _ _ => rfl)) pa_nil))))))) (pss_one (ps_ret pe_bl)) pss_nil)))
 (pss_cons (ps_if (pt_cmpR op_ne (pe_dget (hu_of hr) (pv 2) pe_int (fun _ _ => rfl)) pe_int (nomark _)) (pss_one (ps_ret pe_bl)) pss_nil)
 (pss_cons (ps_if (pt_cmpR op_gt (pe_callB call_len_seq (by rfl) T.m_len (by decide +kernel) (pa_cons (pe_lc (own := [("_law_row", 4)]) (g := gName 4) (by rfl) sc_look.nd (pi_list (pe_ix ix_list (pv 0) pe_int (fun _ _ => rfl))) (blkOk_by (own := [("_law_row", 4)]) (N := N_look) (sc := defScope s_look) (by decide +kernel)) (fun _ _ _ _ _ => pg_name (i := 4) sc_look.nd rfl (Or.inl rfl)) (fun _ _ _ _ _ => pts_one (pt_cmpR op_gt (pe_op op_sub (pe_dget (hu_of hr) (pv 2) (pe_ix (show IxR _ (rIxT K) from ix_tup) (pv 4) pe_int (fun _ _ => rfl)) (fun _ _ => rfl)) (pe_dget (hu_of hr) (pv 2) (pe_ix (show IxR _ (rIxT K) from ix_tup) (pv 4) pe_int (fun _ _ => rfl)) (fun _ _ => rfl))) (pe_ix (show IxR _ (rIxT K) from ix_tup) (pv 4) pe_int (fun _ _ => rfl)) (nomark _))) (fun _ _ _ _ _ => (pv 4))) pa_nil)) pe_int (nomark _)) (pss_one (ps_ret pe_bl)) pss_nil)
 (pss_cons (ps_dput (hu_of hr) (pv 2) pe_int pe_int rfl)
 (pss_one (ps_dput (hu_of hr) (pv 2) pe_int pe_int rfl)))))))))
 (pss_one (ps_ret pe_bl))), ?_⟩
    refine Z.w_start (σ' := [some (.ref d.S), none, none, none, none]) rfl ?_
    walk_at "w"
    refine ⟨by decide, by decide, ?_⟩
    refine for_range (fun k σ H' => ∃ (x1 x2 x3 : Option V), σ = [some (.ref d.S), x1, x2, x3, none] ∧ Same H H') ?_ ?_ ?_
    · exact ⟨none, none, none, rfl, Same.refl _⟩
    · rintro k σ H0 hk ⟨x1, x2, x3, rfl, s0'⟩
      have hd := hd0.same s0'
      have hk64 : d.x.ks.length < 64 := Nat.lt_of_le_of_lt (List.Nodup.length_le_of_subset hd.W.nd hd.sub) hps
      have hSS : SqL K H0 d.S d.fs := .inl (.inl hd.eS)
      have a0 : atI d.fs 0 = some (.ref d.x.o) := rfl
      have a1 : atI d.fs 1 = some (.ref d.R) := rfl
      have a2 : atI d.fs 2 = some (.ref d.A) := rfl
      walk_at "w"
      refine w_methE ?_
      walk_at "w"
      refine ⟨d.x.o, d.x.w.dx, _, rfl, hd.W.ob, (by rfl), ?_⟩
      walk_at "w"
      refine ⟨d.x.o, d.x.w, d.x.ks, d.x.h, d.x.la, d.rs, d.x.s, rfl, hd.W, hk64, fun p H1 ps s1 fp ep hperm hpw => ?_⟩
      walk_at "w"
      refine w_isi_dd ep ?_
      walk_at "w"
      refine ⟨p, _, rfl, .of ep, fun q fq => ?_⟩
      have hks : ((hD ps (fun q => d.x.h q - d.x.h 0)).map fun kv => kV kv.1) = ps.map V.int := by
        unfold hD
        rw [List.map_map]
        rfl
      rw [hks]
      have s2 := same_of s1 fq (o := .lst (ps.map V.int))
      have eq1 : (upd H1 q (.lst (ps.map V.int))) q = some (.lst (ps.map V.int)) := upd_same
      have sA := same_of (Same.refl H1) fq (o := .lst (ps.map V.int))
      generalize upd H1 q (.lst (ps.map V.int)) = H2 at *
      have hS2 : SqL K H2 d.S d.fs := .inl (.inl (s2 _ _ hd.eS))
      walk_at "w"
      refine ⟨d.A, d.as, rfl, .inl (.inl (s2 _ _ hd.eA)), hlen0, fun ps3 p3 hp3 hw3 fp3 => ?_⟩
      have s3 := same_of (Same.refl H2) fp3 (o := .lst (ps3.map V.int))
      have ep3 : (upd H2 p3 (.lst (ps3.map V.int))) p3 = some (.lst (ps3.map V.int)) := upd_same
      generalize upd H2 p3 (.lst (ps3.map V.int)) = H3 at *
      have hnd : ps.Nodup := hperm.nodup_iff.mpr hd.W.nd
      have e3 : ps3 = ps := sorted_eq hw3 hpw (hp3.nodup_iff.mpr hd.nd) hnd fun x => by rw [hp3.mem_iff, hd.ma, hperm.mem_iff]
      subst e3
      refine ne_ints (.inl (.inl (s3 _ _ eq1))) (.inl (.inl ep3)) ?_
      walk_at "w"
      have s13 : Same H1 H3 := sA.trans s3
      have sH3 : Same H0 H3 := s2.trans s3
      refine ⟨p, _, rfl, .of (s13 _ _ ep), fun q2 fq2 => ?_⟩
      rw [hks]
      have sB := same_of (Same.refl H3) fq2 (o := .lst (ps3.map V.int))
      have eq2 : (upd H3 q2 (.lst (ps3.map V.int))) q2 = some (.lst (ps3.map V.int)) := upd_same
      generalize upd H3 q2 (.lst (ps3.map V.int)) = H4 at *
      have s14 : Same H1 H4 := s13.trans sB
      have sH4 : Same H0 H4 := sH3.trans sB
      have hget : ∀ {H' : Hp}, Same H4 H' → ∀ x ∈ ps3, DGet H' p (.int x) (some (.int (d.x.h x - d.x.h 0))) := fun {H'} sm x hx => dget_hD (h := fun q => d.x.h q - d.x.h 0) (sm _ _ (s14 _ _ ep)) hx
      have hz0 : (0 : Int) ∈ ps3 := hperm.mem_iff.mpr hd.W.k0
      have hpl : ∀ r ∈ d.rs, lx r ∈ ps3 ∧ ly r ∈ ps3 := fun r hr => ⟨hperm.mem_iff.mpr (hd.pl r hr).1, hperm.mem_iff.mpr (hd.pl r hr).2⟩
      have hfe2 : FeasL d.rs d.x.h := (feasL_iff d.rs d.x.h).mp (by rw [← hd.s3 hb3]; exact hd.W.fe)
      have hv := hd.lv
      have hR := hd.eR
      refine ⟨q2, rfl, ⟨_, .inl (.inl eq2)⟩, ?_⟩
      refine for_list (K := K) (xs := ps3.map V.int) (fun j σ H5 => ∃ (x3 : Option V), σ = [some (.ref d.S), some (.int (0 + (k : Int))), some (.ref p), x3, none] ∧ Same H4 H5) ?_ ?_ ?_ ?_
      · exact ⟨_, rfl, Same.refl _⟩
      · rintro j σ H5 hj ⟨x3, rfl, s5⟩
        exact .inl (.inl (s5 _ _ eq2))
      · rintro j v σ H5 hvj ⟨x3, rfl, s5⟩
        have hj : j < ps3.length := by
          have := (List.getElem?_eq_some_iff.mp hvj).1
          rwa [List.length_map] at this
        rw [List.getElem?_map, List.getElem?_eq_getElem hj] at hvj
        obtain rfl := Option.some.inj hvj
        have hqm : ps3[j] ∈ ps3 := List.getElem_mem hj
        generalize ps3[j] = x at *
        walk_at "w"
        refine ⟨p, _, rfl, hget s5 x hqm, ?_⟩
        walk_at "w"
        exact s5
      · rintro σ H5 ⟨x3, rfl, s5⟩
        walk_at "w"
        refine ⟨p, _, rfl, hget s5 0 hz0, ?_⟩
        rw [Int.sub_self]
        walk_at "w"
        have sH5 : Same H0 H5 := sH4.trans s5
        have hv5 := hv.tup (TupS.of sH5)
        have hS5 : SqL K H5 d.S d.fs := .inl (.inl (sH5 _ _ hd.eS))
        walk_at "w"
        refine ⟨⟨_, .inl (.inl (sH5 _ _ hR))⟩, ?_⟩
        intro F fF
        have nF : p ≠ F := ne_of_none (s5 _ _ (s14 _ _ ep)) fF
        refine lc_list (K := K) (xs := d.us) (fun j H6 => Same H5 H6 ∧ H6 F = some (.lst [])) ?_ ?_ ?_ ?_
        · exact ⟨same_of (Same.refl _) fF, upd_same⟩
        · rintro j H6 hj ⟨s6, _⟩
          exact .inl (.inl (s6 _ _ (sH5 _ _ hR)))
        · rintro j v H6 hvj ⟨s6, e6⟩
          have hj : j < d.rs.length := by rw [← hv.1]; exact (List.getElem?_eq_some_iff.mp hvj).1
          have hrj : d.rs[j]? = some d.rs[j] := List.getElem?_eq_getElem hj
          have hrm := List.mem_of_getElem? hrj
          obtain ⟨tt, k1, k2⟩ := hv5.2 j _ hrj
          rw [hvj] at k1
          obtain rfl := Option.some.inj k1
          generalize d.rs[j] = r at *
          have k2' := s6 _ _ k2
          unfold limT at k2'
          have s46 : Same H4 H6 := s5.trans s6
          refine Z.w_gname (σ' := [some (.ref d.S), some (.int (0 + (k : Int))), some (.ref p), x3, some (.ref tt)]) rfl ⟨rfl, ?_⟩
          walk_at "w"
          refine ⟨p, _, rfl, hget s46 _ (hpl r hrm).1, ?_⟩
          walk_at "w"
          refine ⟨p, _, rfl, hget s46 _ (hpl r hrm).2, ?_⟩
          walk_at "w"
          have := hfe2 r hrm
          refine Z.w_iteF (by omega) ?_
          walk_at "w"
          exact ⟨s6, e6⟩
        · rintro H6 ⟨s6, e6⟩
          walk_at "w"
          have ep6 := s6 _ _ (s5 _ _ (s14 _ _ ep))
          have hlen : (hD ps3 (fun q => d.x.h q - d.x.h 0)).length < 64 := by
            unfold hD
            rw [List.length_map, hperm.length_eq]
            exact hk64
          refine ⟨p, _, rfl, DPut.k (k := Sum.inl 0) ep6 (Nat.lt_trans hlen (by decide)), ?_⟩
          have f0 : H0 p = none := fp
          have sF := same_mut (sH5.trans s6) f0 (o := .dK (putK (hD ps3 (fun q => d.x.h q - d.x.h 0)) (Sum.inl 0) (.int 1)))
          have eF : (upd H6 p (.dK (putK (hD ps3 (fun q => d.x.h q - d.x.h 0)) (Sum.inl 0) (.int 1)))) p = some (.dK (putK (hD ps3 (fun q => d.x.h q - d.x.h 0)) (Sum.inl 0) (.int 1))) := upd_same
          have hlen2 := length_putK (hD ps3 (fun q => d.x.h q - d.x.h 0)) (Sum.inl 0) (.int 1)
          generalize putK (hD ps3 (fun q => d.x.h q - d.x.h 0)) (Sum.inl 0) (.int 1) = kv2 at *
          generalize upd H6 p (.dK kv2) = H7 at *
          walk_at "w"
          refine ⟨p, _, rfl, DPut.k (k := Sum.inl 100003) eF (Nat.lt_trans (show kv2.length < 70 by omega) (by decide)), ?_⟩
          exact ⟨_, _, _, rfl, s0'.trans (same_mut sF f0)⟩
    · rintro σ H' ⟨x1, x2, x3, rfl, s1⟩
      walk_at "w"
      exact h H' s1
def spCounted (C : Addr) : Sp := fun vs H Q _ => ∃ (L : Addr) (d e : HR) (ps : List Int), vs = [.ref L] ∧ House C H ps d ∧ House C H ps e ∧ H L = some (.lst [.ref d.S, .ref e.S]) ∧ Q (.bl true) H
theorem ok_counted (T : Txt K mg) : FnOk P w' K mg base CX0 2 T.f_counted T.fd_counted ["_law_pair"] (spCounted T.C_Ways) := by
  have G_whole := ok_whole (P := P) (w := w') (base := base) T
  have G_Ways_limits := ok_limits (P := P) (w' := w') (base := base) T
  refine T.F_counted.ok sc_counted (fun vs H Q E h => ?_) (fun cdv A outer s0 H vs Q E hr h => ?_)
  · obtain ⟨L, d, e, ps, rfl, _⟩ := h
    rfl
  · obtain ⟨L, d, e, ps, rfl, hd, he, hL, h⟩ := h
    refine ⟨_, (pss_cons (ps_for PassesOwn.never rfl (pi_list (pv 0)) (pg_name (i := 1) sc_counted.nd rfl (.inl rfl)) (pss_cons (ps_set (i := 2) sc_counted.nd rfl (.inl rfl) (pe_meth0 (pe_ix ix_list (pv 1) pe_int (fun _ _ => rfl)) T.cl_Ways T.M_Ways_limits G_Ways_limits (hr.mono (by first | decide | omega)) T.b_Ways_limits .nil pass0))
 (pss_one (ps_if (PW.pt (pw_or (pt_not (pt_val (pe_call G_whole (hr.mono (by first | decide | omega)) (by rfl) T.g_whole T.F_whole.kp T.b_whole .nil pass0 (pa_cons (pv 2) pa_nil)))) (pw_or1 (pt_cmpR op_ne (pv 2) (pe_callB call_len_seq (by rfl) T.m_len (by decide +kernel) (pa_cons (pe_ix ix_list (pv 1) pe_int (fun _ _ => rfl)) pa_nil)) (nomark _))))) (pss_one (ps_ret pe_bl)) pss_nil))))
 (pss_one (ps_ret pe_bl))), ?_⟩
    refine Z.w_start (σ' := [some (.ref L), none, none]) rfl ?_
    walk_at "w"
    refine for_list (K := K) (xs := [V.ref d.S, .ref e.S]) (fun i σ H' => ∃ (x1 x2 : Option V), σ = [some (.ref L), x1, x2] ∧ H' = H) ?_ ?_ ?_ ?_
    · exact ⟨none, none, rfl, rfl⟩
    · rintro i σ H' hi ⟨x1, x2, rfl, rfl⟩
      exact .inl (.inl hL)
    · rintro i v σ H' hv ⟨x1, x2, rfl, rfl⟩
      have : ∃ f : HR, House T.C_Ways H' ps f ∧ v = .ref f.S := by
        have hi := (List.getElem?_eq_some_iff.mp hv).1
        have : i = 0 ∨ i = 1 := by
          simp only [List.length_cons, List.length_nil] at hi
          omega
        rcases this with rfl | rfl
        · exact ⟨d, hd, (Option.some.inj hv).symm⟩
        · exact ⟨e, he, (Option.some.inj hv).symm⟩
      obtain ⟨f, hf, rfl⟩ := this
      have hSS : SqL K H' f.S f.fs := .inl (.inl hf.eS)
      have a0 : atI f.fs 0 = some (.ref f.x.o) := rfl
      have a1 : atI f.fs 1 = some (.ref f.R) := rfl
      have eR := hf.eR
      have hul := hf.lv.1
      walk_at "w"
      refine w_methE ?_
      walk_at "w"
      refine ⟨f.x.o, f.x.w.dx, _, rfl, hf.W.ob, (by rfl), ?_⟩
      walk_at "w"
      refine ⟨f.x.o, f.x.w, f.x.ks, f.x.h, f.x.la, f.rs, f.x.s, rfl, hf.W, ?_⟩
      walk_at "w"
      rfl
    · rintro σ H' ⟨x1, x2, rfl, rfl⟩
      walk_at "w"
      exact h
end
end L


namespace L
open PySem PySem.Spec PyProof.Rows L2 Z M WY HQ
section
variable {P : Program} {w' : World} {K : PySem.W.Frag} {mg : Str → Option Value} {base : Heap}
theorem TupS.px {q : Addr} {H H' : Hp} (hp : PoolAt H q) (p : PX q H H') : TupS H H' := fun b xs e => p.sx b _ (tup_pool hp e) e
theorem House.px {C : Addr} {H H' : Hp} {ps : List Int} {d : HR} {m : Addr} (h : House C H ps d) (hm : m ∉ allH d) (hp : PoolAt H m) (p : PX m H H') : House C H' ps d := h.stay (fun b u hb e => p.sx b u (fun z => hm (by rw [← z]; exact hb)) e) (TupS.px hp p)
def spDrawn (C : Addr) : Sp := fun vs H Q _ => ∃ (m A0 : Addr) (d : HR) (ps : List Int) (g : Bool), vs = [.ref m, .ref d.S, .ref A0, .bl g] ∧ PoolAt H m ∧ House C H ps d ∧ H A0 = some (.lst (ps.map V.int)) ∧ ps.Nodup ∧ 0 < ps.length ∧ ps.length < 64 ∧ A0 ≠ m ∧ m ∉ allH d ∧ d.rs.length < 200 ∧
  ∀ t H' r, PX m H H' → H' t = some (.tup (limT r)) → lx r ∈ ps → ly r ∈ ps → LabJ (d.rs ++ [r]) → Q (.ref t) H'
theorem ok_drawn (T : Txt K mg) : FnOk P w' K mg base CX0 2 T.f_drawn T.fd_drawn ["_law_pool_here", "_law_house", "_law_places_here", "_law_great"] (spDrawn T.C_Ways) := by
  have G_take := ok_take (P := P) (w := w') (base := base) T
  have G_heights := ok_BF (P := P) (w' := w') (base := base) T
  have G_reach := ok_reach (P := P) (w' := w') (base := base) T
  refine T.F_drawn.ok sc_drawn (fun vs H Q E h => ?_) (fun cdv A outer s0 H vs Q E hr h => ?_)
  · obtain ⟨m, A0, d, ps, g, rfl, _⟩ := h
    rfl
  · obtain ⟨m, A0, d, ps, g, rfl, hp, hd, hA, nd, hl0, hps, nA, hm, hrl, h⟩ := h
    have hpsl : (ps.map V.int).length = ps.length := List.length_map _
    have hpl : ∀ r ∈ d.rs, lx r ∈ ps ∧ ly r ∈ ps := fun r hr => ⟨hd.sub _ (hd.pl r hr).1, hd.sub _ (hd.pl r hr).2⟩
    have hul := hd.lv.1
    refine ⟨_, (pss_cons (ps_set (i := 4) sc_drawn.nd rfl (.inl rfl) (pe_ix ix_list (pv 2) (pe_call G_take (hr.mono (by first | decide | omega)) (by rfl) T.g_take T.F_take.kp T.b_take .nil pass0 (pa_cons (pv 0) (pa_cons (pe_callB call_len_seq (by rfl) T.m_len (by decide +kernel) (pa_cons (pv 2) pa_nil)) pa_nil))) (fun _ _ => rfl)))
 (pss_cons (ps_set (i := 5) sc_drawn.nd rfl (.inl rfl) (pe_ix ix_list (pv 2) (pe_call G_take (hr.mono (by first | decide | omega)) (by rfl) T.g_take T.F_take.kp T.b_take .nil pass0 (pa_cons (pv 0) (pa_cons (pe_callB call_len_seq (by rfl) T.m_len (by decide +kernel) (pa_cons (pv 2) pa_nil)) pa_nil))) (fun _ _ => rfl)))
 (pss_cons (ps_set (i := 6) sc_drawn.nd rfl (.inl rfl) (pe_op op_sub (pe_call G_take (hr.mono (by first | decide | omega)) (by rfl) T.g_take T.F_take.kp T.b_take .nil pass0 (pa_cons (pv 0) (pa_cons pe_int pa_nil))) pe_int))
 (pss_cons (ps_if (PW.pt (pw_and (pt_val (pv 3)) (pw_and1 (pt_cmpR op_eq (pe_call G_take (hr.mono (by first | decide | omega)) (by rfl) T.g_take T.F_take.kp T.b_take .nil pass0 (pa_cons (pv 0) (pa_cons pe_int pa_nil))) pe_int (nomark _))))) (pss_one (ps_set (i := 6) sc_drawn.nd rfl (.inl rfl) (pe_op op_add (pe_op op_mul (pe_op op_sub (pe_call G_take (hr.mono (by first | decide | omega)) (by rfl) T.g_take T.F_take.kp T.b_take .nil pass0 (pa_cons (pv 0) (pa_cons pe_int pa_nil))) pe_int) (pe_op op_pow pe_int pe_int)) (pe_call G_take (hr.mono (by first | decide | omega)) (by rfl) T.g_take T.F_take.kp T.b_take .nil pass0 (pa_cons (pv 0) (pa_cons pe_int pa_nil)))))) pss_nil)
 (pss_cons (ps_set (i := 7) sc_drawn.nd rfl (.inl rfl) (pe_call G_take (hr.mono (by first | decide | omega)) (by rfl) T.g_take T.F_take.kp T.b_take .nil pass0 (pa_cons (pv 0) (pa_cons pe_int pa_nil))))
 (pss_cons (ps_if (PW.pt (pw_and (pt_cmpR op_gt (pv 7) pe_int (nomark _)) (pw_and1 (pt_val (pe_call G_heights (hr.mono (by first | decide | omega)) (by rfl) T.g_heights T.F_heights.kp T.b_heights .nil pass0 (pa_cons (pe_ix ix_list (pv 1) pe_int (fun _ _ => rfl)) (pa_cons (pv 2) pa_nil))))))) (pss_cons (ps_set (i := 8) sc_drawn.nd rfl (.inl rfl) (pe_ix ix_list (pe_call G_reach (hr.mono (by first | decide | omega)) (by rfl) T.g_reach T.F_reach.kp T.b_reach .nil pass0 (pa_cons (pe_ix ix_list (pv 1) pe_int (fun _ _ => rfl)) (pa_cons (pv 2) (pa_cons (pv 4) pa_nil)))) (pe_bm PySem.F.plainAttrs_list PySem.F.slot_list_index PySem.F.type_list_index mt_index (pv 2) (pa_cons (pv 5) pa_nil)) (fun _ _ => rfl)))
 (pss_one (ps_if (pt_cmpR op_notN (pv 8) pe_non (nomark _)) (pss_one (ps_set (i := 6) sc_drawn.nd rfl (.inl rfl) (pe_op op_sub (pe_op op_sub pe_int (pv 7)) (pv 8)))) pss_nil))) pss_nil)
 (pss_cons (ps_if (pt_cmpR op_ge (pe_callB call_abs (by rfl) T.m_abs (by decide +kernel) (pa_cons (pv 6) pa_nil)) (pe_op op_pow pe_int pe_int) (nomark _)) (pss_one (ps_set (i := 6) sc_drawn.nd rfl (.inl rfl) (pe_op op_sub (pe_op op_mod (pe_callTy call_int1 (by rfl) T.m_int (by decide +kernel) (pa_cons (pv 6) pa_nil)) pe_int) pe_int))) pss_nil)
 (pss_cons (ps_set (i := 9) sc_drawn.nd rfl (.inl rfl) (pe_op op_add (pe_op op_add pe_int (pe_op op_mul pe_int (pe_callB call_len_seq (by rfl) T.m_len (by decide +kernel) (pa_cons (pe_ix ix_list (pv 1) pe_int (fun _ _ => rfl)) pa_nil)))) (pe_call G_take (hr.mono (by first | decide | omega)) (by rfl) T.g_take T.F_take.kp T.b_take .nil pass0 (pa_cons (pv 0) (pa_cons pe_int pa_nil)))))
 (pss_cons (ps_if (pt_cmpR op_eq (pe_call G_take (hr.mono (by first | decide | omega)) (by rfl) T.g_take T.F_take.kp T.b_take .nil pass0 (pa_cons (pv 0) (pa_cons pe_int pa_nil))) pe_int (nomark _)) (pss_one (ps_set (i := 9) sc_drawn.nd rfl (.inl rfl) (pe_op op_sub pe_int (pv 9)))) pss_nil)
 (pss_one (ps_ret (pe_tup (pa_cons (pv 4) (pa_cons (pv 5) (pa_cons (pv 6) (pa_cons (pv 9) pa_nil)))))))))))))))), ?_⟩
    refine Z.w_start (σ' := [some (.ref m), some (.ref d.S), some (.ref A0), some (.bl g), none, none, none, none, none, none]) rfl ?_
    walk_at "w"
    rename_i r1 H1 p1 h1 h2
    have eA1 := p1.sx _ _ nA hA
    obtain ⟨x, ax, hx⟩ := at_i h1 (show r1 < ps.length by omega)
    have hS1 : SqL K H1 A0 (ps.map V.int) := .inl (.inl eA1)
    have hp1 := p1.pl
    walk_at "w"
    rename_i r2 H2 p2 h3 h4
    have p12 := p1.trans p2
    have eA2 := p12.sx _ _ nA hA
    obtain ⟨y, ay, hy⟩ := at_i h3 (show r2 < ps.length by omega)
    have hS2 : SqL K H2 A0 (ps.map V.int) := .inl (.inl eA2)
    have hp2 := p2.pl
    repeat' (first | with_reducible refine seqIf (fun σ' H' => ∃ k : Int, σ' = [some (.ref m), some (.ref d.S), some (.ref A0), some (.bl g), some (.int x), some (.int y), some (.int k), none, none, none] ∧ PX m H H') (fun R kk => ?_) ?_ | walk_at "w1")
    · rename_i r3 H3 p3 h5 h6
      have p13 := p12.trans p3
      have hp3 := p3.pl
      cases g
      · walk_at "w"
        exact kk _ _ ⟨_, rfl, p13⟩
      · walk_at "w"
        rename_i r4 H4 p4 h7 h8
        have p14 := p13.trans p4
        by_cases hr : r4 = 2
        · rw [decide_eq_true hr]
          have hp4 := p4.pl
          walk_at "w"
          rename_i r5 H5 p5 h9 h10 r6 H6 p6 h11 h12
          exact kk _ _ ⟨_, rfl, (p14.trans p5).trans p6⟩
        · rw [decide_eq_false hr]
          walk_at "w"
          exact kk _ _ ⟨_, rfl, p14⟩
    rintro σ H3 ⟨k, rfl, p3⟩
    have hp3 := p3.pl
    repeat' (first | with_reducible refine seqIf (fun σ' H' => ∃ (k r : Int) (x8 : Option V), σ' = [some (.ref m), some (.ref d.S), some (.ref A0), some (.bl g), some (.int x), some (.int y), some (.int k), some (.int r), x8, none] ∧ PX m H H') (fun R kk => ?_) ?_ | walk_at "w1")
    · rename_i r3 H4 p4 h5 h6
      have p34 := p3.trans p4
      have hp4 := p4.pl
      have hd4 := hd.px hm hp p34
      have eA4 := p34.sx _ _ nA hA
      have hSS : SqL K H4 d.S d.fs := .inl (.inl hd4.eS)
      have a1 : atI d.fs 1 = some (.ref d.R) := rfl
      by_cases hn : r3 > 1
      · refine Z.w_iteT hn ?_
        walk_at "w"
        refine ⟨d.R, A0, d.us, d.rs, ps, rfl, hd4.eR, hd4.lv, eA4, nd, hpl, hps, fun b H5 s5 _ => ?_⟩
        walk_at "w"
        cases b
        · walk_at "w"
          exact kk _ _ ⟨k, _, _, rfl, p34.same s5⟩
        · have hd5 := hd4.same s5
          have eA5 := s5 _ _ eA4
          have hS5 : SqL K H5 d.S d.fs := .inl (.inl hd5.eS)
          walk_at "w"
          refine ⟨d.R, A0, x, d.us, d.rs, ps, rfl, hd5.eR, hd5.lv, eA5, hx, hpl, hps, fun p H6 os s6 fp ep lo => ?_⟩
          have hSA6 : SqL K H6 A0 (ps.map V.int) := .inl (.inl (s6 _ _ eA5))
          have ly' : ps.idxOf y < os.length := by rw [lo]; exact List.idxOf_lt_length_of_mem hy
          have aY := o_at ly'
          have hSp6 : SqL K H6 p (os.map oV) := .inl (.inl ep)
          walk_at "w"
          refine Z.w_bm ?_
          walk_at "w"
          refine ⟨.inl ⟨rfl, _, hSA6⟩, ?_⟩
          walk_at "w"
          refine w_indexI hSA6 hy ?_
          cases hy2 : os[ps.idxOf y] with
          | none =>
            rw [hy2] at aY
            have aY : atI (os.map oV) (ps.idxOf y : Nat) = some .non := aY
            walk_at "w"
            exact kk _ _ ⟨_, _, _, rfl, p34.same (s5.trans s6)⟩
          | some iy =>
            rw [hy2] at aY
            have aY : atI (os.map oV) (ps.idxOf y : Nat) = some (.int iy) := aY
            walk_at "w"
            exact kk _ _ ⟨_, _, _, rfl, p34.same (s5.trans s6)⟩
      · refine Z.w_iteF hn ?_
        walk_at "w"
        exact kk _ _ ⟨k, _, _, rfl, p34⟩
    rintro σ H5 ⟨k2, r3, x8, rfl, p5⟩
    have a1 : atI d.fs 1 = some (.ref d.R) := rfl
    repeat' (first | with_reducible refine seqIf (fun σ' H' => ∃ (k : Int), σ' = [some (.ref m), some (.ref d.S), some (.ref A0), some (.bl g), some (.int x), some (.int y), some (.int k), some (.int r3), x8, none] ∧ H' = H5) (fun R kk => ?_) ?_ | walk_at "w1")
    · walk_at "wi"
      · walk_at "w"
        exact kk _ _ ⟨_, rfl, rfl⟩
      · walk_at "w"
        exact kk _ _ ⟨_, rfl, rfl⟩
    rintro σ H6 ⟨k3, rfl, rfl⟩
    have hd6 := hd.px hm hp p5
    have hS6 : SqL K H6 d.S d.fs := .inl (.inl hd6.eS)
    have eR6 := hd6.eR
    have hp6 := p5.pl
    repeat' (first | with_reducible refine seqIf (fun σ' H' => ∃ v : Int, σ' = [some (.ref m), some (.ref d.S), some (.ref A0), some (.bl g), some (.int x), some (.int y), some (.int k3), some (.int r3), x8, some (.int v)] ∧ PX m H6 H' ∧ ∃ c, 0 ≤ c ∧ c < 3 ∧ (v = 1 + 3 * (d.rs.length : Int) + c ∨ v = 0 - (1 + 3 * (d.rs.length : Int) + c))) (fun R kk => ?_) ?_ | walk_at "w1")
    · rename_i r7 H7 p7 h5 h6 r8 H8 p8 h7 h8
      rw [hul]
      cases decide (r8 = 1)
      · walk_at "w"
        exact kk _ _ ⟨_, rfl, p7.trans p8, r7, h5, h6, .inl rfl⟩
      · walk_at "w"
        exact kk _ _ ⟨_, rfl, p7.trans p8, r7, h5, h6, .inr rfl⟩
    rintro σ H7 ⟨v, rfl, p7, c, c1, c2, c3⟩
    walk_at "w"
    rename_i t ft
    exact h t _ (x, y, k3, v) ((p5.trans p7).same (same_of (Same.refl _) ft)) upd_same hx hy (hd.lab.snoc c1 c2 c3)
end
end L


namespace L
open PySem PySem.Spec PyProof.Rows L2 Z M WY HQ
theorem House.set4 {C : Addr} {H : Hp} {ps : List Int} {d : HR} (hd : House C H ps d) (v : Bool) : House C (upd H d.S (.lst (d.fs.set 4 (.bl v)))) ps { d with b4 := v } ∧ HX H (upd H d.S (.lst (d.fs.set 4 (.bl v)))) d { d with b4 := v } := by
  have st : ∀ b u, b ≠ d.S → H b = some u → (upd H d.S (.lst (d.fs.set 4 (.bl v)))) b = some u := fun b u n e => by rw [upd_ne n]; exact e
  obtain ⟨t, W⟩ := hd.stS st
  have nRS : d.R ≠ d.S := fun z => hd.nR (by rw [z]; exact List.mem_cons_self)
  have nAS : d.A ≠ d.S := fun z => hd.nA (by rw [z]; exact List.mem_cons_self)
  exact ⟨⟨W, hd.pl, upd_same, st _ _ nRS hd.eR, hd.lv.tup t, st _ _ nAS hd.eA, hd.nd, hd.ma, hd.nS, hd.nR, hd.nA, hd.sub, hd.s3, hd.lab⟩, HX.set st (by rw [upd_same]; simp) rfl rfl (.inl rfl) (.inl rfl)⟩
section
variable {P : Program} {w' : World} {K : PySem.W.Frag} {mg : Str → Option Value} {base : Heap}
def spDeed (C : Addr) : Sp := fun vs H Q _ => ∃ (m A0 : Addr) (d : HR) (ps : List Int) (g : Bool), vs = [.ref m, .ref d.S, .ref A0, .bl g] ∧ PoolAt H m ∧ House C H ps d ∧ H A0 = some (.lst (ps.map V.int)) ∧ ps.Nodup ∧ 0 < ps.length ∧ ps.length < 64 ∧ A0 ≠ m ∧ m ∉ allH d ∧ A0 ∉ mutH d ∧ d.rs.length < 100 ∧
  ∀ H1 H' d', PX m H H1 → HX H1 H' d d' → House C H' ps d' → d'.rs.length ≤ d.rs.length + 1 → Q (.bl true) H'
theorem ok_deed (T : Txt K mg) : FnOk P w' K mg base CX0 6 T.f_deed T.fd_deed ["_law_pool_here", "_law_house", "_law_places_here", "_law_great"] (spDeed T.C_Ways) := by
  have G_take := ok_take (P := P) (w := w') (base := base) T
  have G_drawn := ok_drawn (P := P) (w' := w') (base := base) T
  have G_add := ok_add (P := P) (w' := w') (base := base) T
  have G_back := ok_hback (P := P) (w' := w') (base := base) T
  have G_settle := ok_hsettle (P := P) (w' := w') (base := base) T
  have G_look := ok_look (P := P) (w' := w') (base := base) T
  refine T.F_deed.ok sc_deed (fun vs H Q E h => ?_) (fun cdv A outer s0 H vs Q E hr h => ?_)
  · obtain ⟨m, A0, d, ps, g, rfl, _⟩ := h
    rfl
  · obtain ⟨m, A0, d, ps, g, rfl, hp, hd, hA, nd, hl0, hps, nA, hm, nA0, hrl, h⟩ := h
    refine ⟨_, (pss_cons (ps_set (i := 4) sc_deed.nd rfl (.inl rfl) (pe_call G_take (hr.mono (by first | decide | omega)) (by rfl) T.g_take T.F_take.kp T.b_take .nil pass0 (pa_cons (pv 0) (pa_cons pe_int pa_nil))))
 (pss_cons (ps_set (i := 5) sc_deed.nd rfl (.inl rfl) (pe_callB call_len_seq (by rfl) T.m_len (by decide +kernel) (pa_cons (pe_ix ix_list (pv 1) pe_int (fun _ _ => rfl)) pa_nil)))
 (pss_cons (ps_if (PW.pt (pw_and (pt_val (pe_ix ix_list (pv 1) pe_int (fun _ _ => rfl))) (pw_and1 (pt_cmpR op_eq (pe_op op_mod (pe_callTy call_int1 (by rfl) T.m_int (by decide +kernel) (pa_cons (pv 4) pa_nil)) pe_int) pe_int (nomark _))))) (pss_one (ps_ret (pe_call G_back (hr.mono (by first | decide | omega)) (by rfl) T.g_back T.F_back.kp T.b_back .nil pass0 (pa_cons (pv 1) (pa_cons (pe_callB (call_max2 rfl) (by rfl) T.m_max (by decide +kernel) (pa_cons pe_int (pa_cons (pe_op op_sub (pv 5) pe_int) pa_nil))) pa_nil))))) pss_nil)
 (pss_cons (ps_if (pt_cmpR op_lt (pv 4) pe_int (nomark _)) (pss_one (ps_ret (pe_call G_add (hr.mono (by first | decide | omega)) (by rfl) T.g_add T.F_add.kp T.b_add .nil pass0 (pa_cons (pv 1) (pa_cons (pe_call G_drawn (hr.mono (by first | decide | omega)) (by rfl) T.g_drawn T.F_drawn.kp T.b_drawn .nil pass0 (pa_cons (pv 0) (pa_cons (pv 1) (pa_cons (pv 2) (pa_cons (pv 3) pa_nil))))) pa_nil))))) pss_nil)
 (pss_cons (ps_if (pt_cmpR op_eq (pv 4) pe_int (nomark _)) (pss_one (ps_ret (pe_call G_back (hr.mono (by first | decide | omega)) (by rfl) T.g_back T.F_back.kp T.b_back .nil pass0 (pa_cons (pv 1) (pa_cons (pe_call G_take (hr.mono (by first | decide | omega)) (by rfl) T.g_take T.F_take.kp T.b_take .nil pass0 (pa_cons (pv 0) (pa_cons (pe_op op_add (pv 5) pe_int) pa_nil))) pa_nil))))) pss_nil)
 (pss_cons (ps_if (PW.pt (pw_and (pt_cmpR op_eq (pv 4) pe_int (nomark _)) (pw_and1 (pt_val (pe_ix ix_list (pv 1) pe_int (fun _ _ => rfl)))))) (pss_one (ps_ret (pe_call G_look (hr.mono (by first | decide | omega)) (by rfl) T.g_look T.F_look.kp T.b_look .nil pass0 (pa_cons (pv 1) pa_nil)))) pss_nil)
 (pss_cons (ps_set (i := 6) sc_deed.nd rfl (.inl rfl) (pe_call G_settle (hr.mono (by first | decide | omega)) (by rfl) T.g_settle T.F_settle.kp T.b_settle .nil pass0 (pa_cons (pv 1) (pa_cons (pv 2) pa_nil))))
 (pss_cons (ps_asg (pe_not (pe_ix ix_list (pv 1) pe_int (fun _ _ => rfl))) (pg_sub (pv 1) pe_int set_list))
 (pss_one (ps_ret (pv 6))))))))))), ?_⟩
    refine Z.w_start (σ' := [some (.ref m), some (.ref d.S), some (.ref A0), some (.bl g), none, none, none]) rfl ?_
    walk_at "w"
    rename_i r1 H1 p1 h1 h2
    have hd1 := hd.px hm hp p1
    have hp1 := p1.pl
    have hS1 : SqL K H1 d.S d.fs := .inl (.inl hd1.eS)
    have a1 : atI d.fs 1 = some (.ref d.R) := rfl
    have a3 : atI d.fs 3 = some (.bl d.b3) := rfl
    have a4 : atI d.fs 4 = some (.bl d.b4) := rfl
    have eR1 := hd1.eR
    have eA1 := p1.sx _ _ nA hA
    have hul := hd1.lv.1
    have back : ∀ (H2 : Hp) (c : Int) (Q' : VK) (E' : XK), PX m H H2 → 0 ≤ c → (∀ H', Q (.bl true) H' → Q' (.bl true) H') → spHB T.C_Ways [.ref d.S, .int c] H2 Q' E' := fun H2 c Q' E' p2 hc hq => by
      obtain ⟨n, rfl⟩ : ∃ n : Nat, c = n := ⟨c.toNat, by omega⟩
      exact ⟨d, ps, n, rfl, hd.px hm hp p2, fun H' d' k1 k2 k3 => hq _ (h H2 H' d' p2 k2 k1 (by rw [k3, List.length_take]; omega))⟩
    repeat' (first | with_reducible refine seqIf (fun σ' H' => σ' = [some (.ref m), some (.ref d.S), some (.ref A0), some (.bl g), some (.int r1), some (.int (d.us.length : Int)), none] ∧ H' = H1) (fun R kk => ?_) ?_ | walk_at "w1")
    · cases h4 : d.b4
      · rw [h4] at a4
        walk_at "w"
        exact kk _ _ ⟨rfl, rfl⟩
      · rw [h4] at a4
        walk_at "w"
        cases decide (r1 % 2 = 1)
        · walk_at "w"
          exact kk _ _ ⟨rfl, rfl⟩
        · walk_at "w"
          exact back _ _ _ _ p1 (by split <;> omega) fun H' k => k
    rintro σ H' ⟨rfl, rfl⟩
    repeat' (first | with_reducible refine seqIf (fun σ' H'' => σ' = [some (.ref m), some (.ref d.S), some (.ref A0), some (.bl g), some (.int r1), some (.int (d.us.length : Int)), none] ∧ H'' = H') (fun R kk => ?_) ?_ | walk_at "w1")
    · by_cases hlt : r1 < 4
      · rw [decide_eq_true hlt]
        walk_at "w"
        refine ⟨m, A0, d, ps, g, rfl, hp1, hd1, eA1, nd, hl0, hps, nA, hm, by omega, fun t H2 r p2 ht hx hy hlab => ?_⟩
        walk_at "w"
        refine ⟨d, ps, t, r, rfl, hd1.px hm hp1 p2, ht, hx, hy, by omega, hps, hlab, fun H3 d' k1 k2 k3 => ?_⟩
        walk_at "w"
        exact h H2 H3 d' (p1.trans p2) k2 k1 (by rw [k3, List.length_append]; exact Nat.le_refl _)
      · rw [decide_eq_false hlt]
        walk_at "w"
        exact kk _ _ ⟨rfl, rfl⟩
    rintro σ H2 ⟨rfl, rfl⟩
    repeat' (first | with_reducible refine seqIf (fun σ' H'' => σ' = [some (.ref m), some (.ref d.S), some (.ref A0), some (.bl g), some (.int r1), some (.int (d.us.length : Int)), none] ∧ H'' = H2) (fun R kk => ?_) ?_ | walk_at "w1")
    · by_cases h6 : r1 = 6
      · rw [decide_eq_true h6]
        walk_at "w"
        rename_i r2 H3 p2 h7 h8
        walk_at "w"
        exact back _ _ _ _ (p1.trans p2) h7 fun H' k => k
      · rw [decide_eq_false h6]
        walk_at "w"
        exact kk _ _ ⟨rfl, rfl⟩
    rintro σ H3 ⟨rfl, rfl⟩
    repeat' (first | with_reducible refine seqIf (fun σ' H'' => σ' = [some (.ref m), some (.ref d.S), some (.ref A0), some (.bl g), some (.int r1), some (.int (d.us.length : Int)), none] ∧ H'' = H3) (fun R kk => ?_) ?_ | walk_at "w1")
    · by_cases h7 : r1 = 7
      · rw [decide_eq_true h7]
        walk_at "w"
        cases h3 : d.b3
        · rw [h3] at a3
          walk_at "w"
          exact kk _ _ ⟨rfl, rfl⟩
        · rw [h3] at a3
          walk_at "w"
          refine ⟨d, ps, rfl, hd1, h3, hps, fun H' s' => ?_⟩
          walk_at "w"
          exact h H3 H' d p1 ((HX.refl _ d).same s') (hd1.same s') (by omega)
      · rw [decide_eq_false h7]
        walk_at "w"
        exact kk _ _ ⟨rfl, rfl⟩
    rintro σ H4 ⟨rfl, rfl⟩
    walk_at "w"
    refine ⟨d, A0, ps, rfl, hd1, eA1, nd, hps, nA0, by omega, fun H5 d' k1 k2 k3 k4 => ?_⟩
    have eS5 := k1.eS
    rw [k2.eS] at eS5
    have hS5 : SqL K H5 d.S d'.fs := .inl (.inl eS5)
    have b3 : atI d'.fs 3 = some (.bl d'.b3) := rfl
    walk_at "w"
    have k5 := k1.set4 (!d'.b3)
    rw [k2.eS] at k5
    exact h H4 _ _ p1 (k2.trans k5.2) k5.1 (by show d'.rs.length ≤ _; rw [k3]; omega)
end
end L


namespace L
open PySem PySem.Spec PyProof.Rows L2 Z M WY HQ
section
variable {P : Program} {w' : World} {K : PySem.W.Frag} {mg : Str → Option Value} {base : Heap}
theorem HX.out {H H' : Hp} {d d' : HR} (x : HX H H' d d') {b : Addr} {u : HO} (e : H b = some u) (n : b ∉ mutH d) : H' b = some u ∧ b ∉ mutH d' := ⟨x.fr b u n e, fun z => by
  rcases x.gr b z with y | y
  · exact n y
  · rw [e] at y
    cases y⟩
theorem feas_nil : ∃ g, FeasL [] g := ⟨fun _ => 0, fun r hr => by cases hr⟩
def spEnd (C : Addr) : Sp := fun vs H Q _ => ∃ (d : HR) (A0 : Addr) (ps : List Int), vs = [.ref d.S, .ref A0] ∧ House C H ps d ∧ H A0 = some (.lst (ps.map V.int)) ∧ ps.Nodup ∧ ps.length < 64 ∧ A0 ∉ mutH d ∧ d.rs.length < 200 ∧ ∀ H' d', House C H' ps d' → HX H H' d d' → Q (.bl true) H'
theorem ok_end (T : Txt K mg) : FnOk P w' K mg base CX0 6 T.f_end T.fd_end ["_law_house", "_law_places_here"] (spEnd T.C_Ways) := by
  have G_back := ok_hback (P := P) (w' := w') (base := base) T
  have G_settle := ok_hsettle (P := P) (w' := w') (base := base) T
  have G_look := ok_look (P := P) (w' := w') (base := base) T
  refine T.F_end.ok sc_end (fun vs H Q E h => ?_) (fun cdv A outer s0 H vs Q E hr h => ?_)
  · obtain ⟨d, A0, ps, rfl, _⟩ := h
    rfl
  · obtain ⟨d, A0, ps, rfl, hd, hA, nd, hps, nA0, hrl, h⟩ := h
    have hSS : SqL K H d.S d.fs := .inl (.inl hd.eS)
    have a1 : atI d.fs 1 = some (.ref d.R) := rfl
    have eR := hd.eR
    have hul := hd.lv.1
    refine ⟨_, (pss_cons (ps_for PassesOwn.never rfl (pi_range1 (by rfl) T.m_range (pa_cons (pe_op op_add (pe_callB call_len_seq (by rfl) T.m_len (by decide +kernel) (pa_cons (pe_ix ix_list (pv 0) pe_int (fun _ _ => rfl)) pa_nil)) pe_int) pa_nil)) (pg_name (i := 2) sc_end.nd rfl (.inl rfl)) (pss_cons (ps_if (pt_not (pt_val (pe_call G_settle (hr.mono (by first | decide | omega)) (by rfl) T.g_settle T.F_settle.kp T.b_settle .nil pass0 (pa_cons (pv 0) (pa_cons (pv 1) pa_nil))))) (pss_one (ps_ret pe_bl)) pss_nil)
 (pss_cons (ps_if (pt_val (pe_ix ix_list (pv 0) pe_int (fun _ _ => rfl))) (pss_one ps_break) pss_nil)
 (pss_one (ps_if (pt_not (pt_val (pe_call G_back (hr.mono (by first | decide | omega)) (by rfl) T.g_back T.F_back.kp T.b_back .nil pass0 (pa_cons (pv 0) (pa_cons (pe_op op_sub (pe_callB call_len_seq (by rfl) T.m_len (by decide +kernel) (pa_cons (pe_ix ix_list (pv 0) pe_int (fun _ _ => rfl)) pa_nil)) pe_int) pa_nil))))) (pss_one (ps_ret pe_bl)) pss_nil)))))
 (pss_one (ps_ret (pe_call G_look (hr.mono (by first | decide | omega)) (by rfl) T.g_look T.F_look.kp T.b_look .nil pass0 (pa_cons (pv 0) pa_nil))))), ?_⟩
    refine Z.w_start (σ' := [some (.ref d.S), some (.ref A0), none]) rfl ?_
    walk_at "w"
    refine ⟨by omega, by omega, ?_⟩
    refine for_range (fun k σ H' => ∃ (x2 : Option V) (d' : HR), σ = [some (.ref d.S), some (.ref A0), x2] ∧ House T.C_Ways H' ps d' ∧ HX H H' d d' ∧ d'.rs.length + k = d.rs.length) ?_ ?_ ?_
    · exact ⟨none, d, rfl, hd, .refl _ _, rfl⟩
    · rintro k σ H1 hk ⟨x2, d1, rfl, hd1, hx1, hl1⟩
      obtain ⟨eA1, nA1⟩ := hx1.out hA nA0
      walk_at "w"
      refine ⟨d1, A0, ps, by rw [hx1.eS], hd1, eA1, nd, hps, nA1, by omega, fun H2 d2 k1 k2 k3 k4 => ?_⟩
      have hx2 := hx1.trans k2
      have eS2 := k1.eS
      rw [hx2.eS] at eS2
      have hS2 : SqL K H2 d.S d2.fs := .inl (.inl eS2)
      have b1 : atI d2.fs 1 = some (.ref d2.R) := rfl
      have b3 : atI d2.fs 3 = some (.bl d2.b3) := rfl
      have eR2 := k1.eR
      have hul2 := k1.lv.1
      walk_at "w"
      cases h3 : d2.b3
      · rw [h3] at b3
        walk_at "w"
        have hpos : 0 < d2.rs.length := by
          cases e : d2.rs with
          | nil =>
            rw [k3] at e
            rw [e] at k4
            rw [k4.mpr feas_nil] at h3
            cases h3
          | cons r rs => exact Nat.succ_pos _
        have ec : (d2.us.length : Int) - 1 = ((d2.rs.length - 1 : Nat) : Int) := by omega
        rw [ec, ← hx2.eS]
        refine ⟨d2, ps, d2.rs.length - 1, rfl, k1, fun H3 d3 m1 m2 m3 => ?_⟩
        walk_at "w"
        refine ⟨_, d3, by rw [hx2.eS], m1, hx2.trans m2, ?_⟩
        have : d2.rs.length = d1.rs.length := by rw [k3]
        rw [m3, List.length_take]
        omega
      · rw [h3] at b3
        walk_at "w"
        refine ⟨d2, ps, by rw [hx2.eS], k1, h3, hps, fun H3 s3 => ?_⟩
        exact h H3 d2 (k1.same s3) (hx2.same s3)
    · rintro σ H1 ⟨x2, d1, rfl, hd1, hx1, hl1⟩
      exfalso
      omega
end
end L


namespace L
open PySem PySem.Spec PyProof.Rows L2 Z M WY HQ
/-- a new house -/
def newD (S R A o : Addr) (w : WyO) (la : Int → Addr) : HR := ⟨S, R, A, ⟨o, w, [0], fun _ => 0, la, 0⟩, [], [], [0], false, false⟩
theorem mkHouse {C : Addr} {H : Hp} {ps : List Int} {S R A o : Addr} {w : WyO} {la : Int → Addr} (W : WyC C H o w [0] (fun _ => 0) la [] 0) (h0 : (0 : Int) ∈ ps) (fR : H R = none) (fA : (upd H R (.lst [])) A = none) (fS : (upd (upd H R (.lst [])) A (.lst [.int 0])) S = none) :
    House C (upd (upd (upd H R (.lst [])) A (.lst [.int 0])) S (.lst [.ref o, .ref R, .ref A, .bl false, .bl false])) ps (newD S R A o w la) ∧ Same H (upd (upd (upd H R (.lst [])) A (.lst [.int 0])) S (.lst [.ref o, .ref R, .ref A, .bl false, .bl false])) ∧ ∀ b ∈ allH (newD S R A o w la), b ∈ mutW o w [0] la ∨ H b = none := by
  have nAR : A ≠ R := fun z => by rw [z, upd_same] at fA; cases fA
  have nSA : S ≠ A := fun z => by rw [z, upd_same] at fS; cases fS
  have fS' : (upd H R (.lst [])) S = none := by rw [upd_ne nSA] at fS; exact fS
  have nSR : S ≠ R := fun z => by rw [z, upd_same] at fS'; cases fS'
  have fA0 : H A = none := by rw [upd_ne nAR] at fA; exact fA
  have fS0 : H S = none := by rw [upd_ne nSR] at fS'; exact fS'
  have s1 := same_of (same_of (same_of (Same.refl H) fR (o := .lst [])) fA (o := .lst [.int 0])) fS (o := .lst [.ref o, .ref R, .ref A, .bl false, .bl false])
  have nm : ∀ {b}, H b = none → b ∉ mutW o w [0] la := fun {b} e z => by
    obtain ⟨u, hu, _⟩ := W.has z
    rw [e] at hu
    cases hu
  refine ⟨⟨W.same (fun b u _ => s1 b u) (TupS.of s1), fun r hr => (by cases hr), upd_same, ?_, .nil, ?_, (List.nodup_cons.mpr ⟨by simp, List.nodup_nil⟩), fun z => Iff.rfl, nm fS0, fun z => ?_, fun z => ?_, fun z hz => ?_, (fun e => by cases e), (fun i r hi => by simp [newD] at hi)⟩, s1, fun b hb => ?_⟩
  · show (upd _ S _) R = _
    rw [upd_ne nSR.symm, upd_ne nAR.symm, upd_same]
    rfl
  · show (upd _ S _) A = _
    rw [upd_ne nSA.symm, upd_same]
    rfl
  · rcases List.mem_cons.mp z with z | z
    · exact nSR z.symm
    · exact nm fR z
  · rcases List.mem_cons.mp z with z | z
    · exact nSA z.symm
    · exact nm fA0 z
  · rw [List.mem_singleton.mp hz]
    exact h0
  · simp only [allH, mutH, List.mem_cons] at hb
    rcases hb with rfl | rfl | rfl | hb
    · exact .inr fR
    · exact .inr fA0
    · exact .inr fS0
    · exact .inl hb
/-- the two houses within the law -/
structure Law2 (C : Addr) (H0 H : Hp) (q A0 L : Addr) (ps : List Int) (vs : List V) (d e : HR) : Prop where
  hd : House C H ps d
  he : House C H ps e
  ap1 : ∀ z ∈ mutH d, z ∉ allH e
  ap2 : ∀ z ∈ mutH e, z ∉ allH d
  sm : Same H0 H
  pq : PoolAt H q
  q1 : q ∉ allH d
  q2 : q ∉ allH e
  eA : H A0 = some (.lst (ps.map V.int))
  a1 : A0 ∉ mutH d
  a2 : A0 ∉ mutH e
  aq : A0 ≠ q
  eL : H L = some (.lst vs)
  l1 : L ∉ mutH d
  l2 : L ∉ mutH e
  lq : L ≠ q
  f1 : ∀ b ∈ allH d, H0 b = none
  f2 : ∀ b ∈ allH e, H0 b = none
  fq : H0 q = none
section
variable {C : Addr} {H0 H H1 H' : Hp} {q A0 L m : Addr} {ps : List Int} {vs : List V} {d d' e : HR}
theorem Law2.swap (h : Law2 C H0 H q A0 L ps vs d e) : Law2 C H0 H q A0 L ps vs e d := ⟨h.he, h.hd, h.ap2, h.ap1, h.sm, h.pq, h.q2, h.q1, h.eA, h.a2, h.a1, h.aq, h.eL, h.l2, h.l1, h.lq, h.f2, h.f1, h.fq⟩
theorem Law2.same (h : Law2 C H0 H q A0 L ps vs d e) (s : Same H H') : Law2 C H0 H' q A0 L ps vs d e := ⟨h.hd.same s, h.he.same s, h.ap1, h.ap2, h.sm.trans s, h.pq.same s, h.q1, h.q2, s _ _ h.eA, h.a1, h.a2, h.aq, s _ _ h.eL, h.l1, h.l2, h.lq, h.f1, h.f2, h.fq⟩
theorem Law2.px (h : Law2 C H0 H q A0 L ps vs d e) (hp : PoolAt H m) (m1 : m ∉ allH d) (m2 : m ∉ allH e) (mA : m ≠ A0) (mL : m ≠ L) (m0 : H0 m = none) (p : PX m H H') : Law2 C H0 H' q A0 L ps vs d e := by
  refine ⟨h.hd.px m1 hp p, h.he.px m2 hp p, h.ap1, h.ap2, PX.same0 h.sm m0 p, ?_, h.q1, h.q2, p.sx _ _ mA.symm h.eA, h.a1, h.a2, h.aq, p.sx _ _ mL.symm h.eL, h.l1, h.l2, h.lq, h.f1, h.f2, h.fq⟩
  by_cases z : q = m
  · rw [z]
    exact p.pl
  · obtain ⟨o, ho, hi⟩ := h.pq
    exact ⟨o, p.sx _ _ z ho, hi⟩
theorem Law2.hx (h : Law2 C H0 H q A0 L ps vs d e) (x : HX H H' d d') (k : House C H' ps d') : Law2 C H0 H' q A0 L ps vs d' e := by
  obtain ⟨o, ho, hi⟩ := h.pq
  have no : ∀ b, H b = none → H0 b = none := fun b z => fresh_of1 h.sm z
  refine ⟨k, h.he.stay (fun b u hb z => x.fr b u (fun y => h.ap1 b y hb) z) (x.tup h.hd), fun z hz he => ?_, fun z hz hd => ?_, fun b u z => x.fr b u (fun y => by rw [h.f1 b (mut_all y)] at z; cases z) (h.sm b u z), ⟨o, x.fr _ _ (fun z => h.q1 (mut_all z)) ho, hi⟩, fun z => ?_, h.q2, (x.out h.eA h.a1).1, (x.out h.eA h.a1).2, h.a2, h.aq, (x.out h.eL h.l1).1, (x.out h.eL h.l1).2, h.l2, h.lq, fun b hb => ?_, h.f2, h.fq⟩
  · rcases x.gr z hz with y | y
    · exact h.ap1 z y he
    · exact h.he.alive he y
  · rcases x.ga z hd with y | y
    · exact h.ap2 z hz y
    · exact h.he.alive (mut_all hz) y
  · rcases x.ga q z with y | y
    · exact h.q1 y
    · rw [ho] at y
      cases y
  · rcases x.ga b hb with y | y
    · exact h.f1 b y
    · exact no b y
/-- the pool of a turn -/
theorem Law2.pool (h : Law2 C H0 H q A0 L ps vs d e) (hm : m = q ∨ H m = none) : m ∉ allH d ∧ m ∉ allH e ∧ m ≠ A0 ∧ m ≠ L ∧ H0 m = none := by
  rcases hm with rfl | hm
  · exact ⟨h.q1, h.q2, h.aq.symm, h.lq.symm, h.fq⟩
  · exact ⟨fun z => h.hd.alive z hm, fun z => h.he.alive z hm, (fun z => by rw [z, h.eA] at hm; cases hm), (fun z => by rw [z, h.eL] at hm; cases hm), fresh_of1 h.sm hm⟩
end
end L


namespace L
open PySem PySem.Spec PyProof.Rows L2 Z M WY HQ
section
variable {P : Program} {w' : World} {K : PySem.W.Frag} {mg : Str → Option Value} {base : Heap}
def spLaw (K : PySem.W.Frag) : Sp := fun vs H Q _ => ∃ (a : Addr) (ns : List Int), vs = [.ref a] ∧ SqL K H a (ns.map V.int) ∧ ns.length ≤ 63 ∧ ∀ H', Q (.bl true) H'
theorem ok_law (T : Txt K mg) : FnOk P w' K mg base CX0 7 T.f_law T.fd_law ["_law_script"] (spLaw K) := by
  have G_take := ok_take (P := P) (w := w') (base := base) T
  have G_pool := ok_pool (P := P) (w := w') (base := base) T
  have G_turn := ok_turn (P := P) (w' := w') (base := base) T
  have G_places := ok_places (P := P) (w' := w') (base := base) T
  have G_Ways_init := ok_init (P := P) (w' := w') (base := base) T
  have G_deed := ok_deed (P := P) (w' := w') (base := base) T
  have G_counted := ok_counted (P := P) (w' := w') (base := base) T
  have G_end := ok_end (P := P) (w' := w') (base := base) T
  refine T.F_law.ok sc_law (fun vs H Q E h => ?_) (fun cdv A outer s0 H vs Q E hr h => ?_)
  · obtain ⟨a, ns, rfl, _⟩ := h
    rfl
  · obtain ⟨a, ns, rfl, hS, hnl, h⟩ := h
    refine ⟨_, (pss_cons (ps_set (i := 1) sc_law.nd rfl (.inl rfl) (pe_call G_pool (hr.mono (by first | decide | omega)) (by rfl) T.g_pool T.F_pool.kp T.b_pool .nil pass0 (pa_cons (pv 0) (pa_cons pe_int pa_nil))))
 (pss_cons (ps_set (i := 2) sc_law.nd rfl (.inl rfl) (pe_call G_places (hr.mono (by first | decide | omega)) (by rfl) T.g_places T.F_places.kp T.b_places .nil pass0 (pa_cons (pv 1) pa_nil)))
 (pss_cons (ps_set (i := 3) sc_law.nd rfl (.inl rfl) (pe_cmpR op_eq (pe_call G_take (hr.mono (by first | decide | omega)) (by rfl) T.g_take T.F_take.kp T.b_take .nil pass0 (pa_cons (pv 1) (pa_cons pe_int pa_nil))) pe_int (nomark _)))
 (pss_cons (ps_set (i := 4) sc_law.nd rfl (.inl rfl) (pe_lst (pa_cons (pe_lst (pa_cons (pe_make0 T.mk_Ways G_Ways_init (hr.mono (by first | decide | omega)) (by rfl) T.c_Ways T.b_Ways_init .nil pass0) (pa_cons (pe_lst pa_nil) (pa_cons (pe_lst (pa_cons pe_int pa_nil)) (pa_cons pe_bl (pa_cons pe_bl pa_nil)))))) (pa_cons (pe_lst (pa_cons (pe_make0 T.mk_Ways G_Ways_init (hr.mono (by first | decide | omega)) (by rfl) T.c_Ways T.b_Ways_init .nil pass0) (pa_cons (pe_lst pa_nil) (pa_cons (pe_lst (pa_cons pe_int pa_nil)) (pa_cons pe_bl (pa_cons pe_bl pa_nil)))))) pa_nil))))
 (pss_cons (ps_for PassesOwn.never rfl (pi_range1 (by rfl) T.m_range (pa_cons (pe_op op_add pe_int (pe_call G_take (hr.mono (by first | decide | omega)) (by rfl) T.g_take T.F_take.kp T.b_take .nil pass0 (pa_cons (pv 1) (pa_cons pe_int pa_nil)))) pa_nil)) (pg_name (i := 5) sc_law.nd rfl (.inl rfl)) (pss_cons (ps_set (i := 6) sc_law.nd rfl (.inl rfl) (pe_call G_turn (hr.mono (by first | decide | omega)) (by rfl) T.g_turn T.F_turn.kp T.b_turn .nil pass0 (pa_cons (pv 0) (pa_cons (pv 1) (pa_cons (pe_op op_add (pv 5) pe_int) pa_nil)))))
 (pss_cons (ps_set (i := 7) sc_law.nd rfl (.inl rfl) (pe_ix ix_list (pv 4) pe_int (fun _ _ => rfl)))
 (pss_cons (ps_if (pt_cmpR op_eq (pe_call G_take (hr.mono (by first | decide | omega)) (by rfl) T.g_take T.F_take.kp T.b_take .nil pass0 (pa_cons (pv 6) (pa_cons pe_int pa_nil))) pe_int (nomark _)) (pss_one (ps_set (i := 7) sc_law.nd rfl (.inl rfl) (pe_ix ix_list (pv 4) pe_int (fun _ _ => rfl)))) pss_nil)
 (pss_one (ps_if (PW.pt (pw_or (pt_not (pt_val (pe_call G_deed (hr.mono (by first | decide | omega)) (by rfl) T.g_deed T.F_deed.kp T.b_deed .nil pass0 (pa_cons (pv 6) (pa_cons (pv 7) (pa_cons (pv 2) (pa_cons (pv 3) pa_nil))))))) (pw_or1 (pt_not (pt_val (pe_call G_counted (hr.mono (by first | decide | omega)) (by rfl) T.g_counted T.F_counted.kp T.b_counted .nil pass0 (pa_cons (pv 4) pa_nil))))))) (pss_one (ps_ret pe_bl)) pss_nil))))))
 (pss_cons (ps_for PassesOwn.never rfl (pi_list (pv 4)) (pg_name (i := 7) sc_law.nd rfl (.inl rfl)) (pss_one (ps_if (PW.pt (pw_or (pt_not (pt_val (pe_call G_end (hr.mono (by first | decide | omega)) (by rfl) T.g_end T.F_end.kp T.b_end .nil pass0 (pa_cons (pv 7) (pa_cons (pv 2) pa_nil))))) (pw_or1 (pt_not (pt_val (pe_call G_counted (hr.mono (by first | decide | omega)) (by rfl) T.g_counted T.F_counted.kp T.b_counted .nil pass0 (pa_cons (pv 4) pa_nil))))))) (pss_one (ps_ret pe_bl)) pss_nil)))
 (pss_one (ps_ret pe_bl)))))))), ?_⟩
    refine Z.w_start (σ' := [some (.ref a), none, none, none, none, none, none, none]) rfl ?_
    walk_at "w"
    refine ⟨a, ns, 0, rfl, hS, by omega, by decide, by decide, fun q o fq ho => ?_⟩
    have sq := same_of (Same.refl H) fq (o := o)
    have hp : PoolAt (upd H q o) q := ⟨o, upd_same, ho⟩
    have own : ∀ {H'}, PX q (upd H q o) H' → Same H H' := fun {H'} x => PX.own fq x
    generalize upd H q o = H1 at *
    walk_at "w"
    refine ⟨q, rfl, hp, fun A0 H2 ps p2 fA eA hz nd hpl => ?_⟩
    have nAq : A0 ≠ q := fun z => by
      obtain ⟨o, ho, _⟩ := hp
      rw [z, ho] at fA
      cases fA
    have hp2 := p2.pl
    walk_at "w"
    rename_i r3 H3 p3 h1 h2
    have p23 := p2.trans p3
    have eA3 := p3.sx _ _ nAq eA
    have sm3 := own p23
    have hp3 := p23.pl
    generalize decide (r3 = 2) = gr at *
    clear p2 p3 hp2 eA hp sq
    walk_at "w"
    refine w_make ?_
    walk_at "w"
    intro o1 d1 f1 g1 n1
    refine ⟨o1, d1, H3, rfl, rfl, f1, g1, n1, fun w1 la1 H4 s4 fr4 W4 => ⟨rfl, ?_⟩⟩
    walk_at "w"
    rename_i R1 fR1 A1 fA1 S1 fS1
    obtain ⟨hd0, s5, al0⟩ := mkHouse W4 hz fR1 fA1 fS1
    generalize upd (upd (upd H4 R1 (.lst [])) A1 (.lst [.int 0])) S1 (.lst [.ref o1, .ref R1, .ref A1, .bl false, .bl false]) = H5 at *
    refine w_make ?_
    walk_at "w"
    intro o2 d2 f2 g2 n2
    refine ⟨o2, d2, H5, rfl, rfl, f2, g2, n2, fun w2 la2 H6 s6 fr6 W6 => ⟨rfl, ?_⟩⟩
    walk_at "w"
    rename_i R2 fR2 A2 fA2 S2 fS2 L fL
    obtain ⟨he0, s7, al1⟩ := mkHouse W6 hz fR2 fA2 fS2
    generalize upd (upd (upd H6 R2 (.lst [])) A2 (.lst [.int 0])) S2 (.lst [.ref o2, .ref R2, .ref A2, .bl false, .bl false]) = H7 at *
    have s8 := same_of (Same.refl H7) fL (o := .lst [.ref S1, .ref S2])
    have eL : (upd H7 L (.lst [.ref S1, .ref S2])) L = some (.lst [.ref S1, .ref S2]) := upd_same
    generalize upd H7 L (.lst [.ref S1, .ref S2]) = H8 at *
    have T0 : Law2 T.C_Ways H H8 q A0 L ps [.ref S1, .ref S2] (newD S1 R1 A1 o1 w1 la1) (newD S2 R2 A2 o2 w2 la2) := by
      have hd7 := (hd0.same s6).same s7
      have s37 : Same H3 H7 := ((s4.trans s5).trans s6).trans s7
      have q3 : ∃ u, H3 q = some u := by
        obtain ⟨o, ho, _⟩ := hp3
        exact ⟨o, ho⟩
      have x1 : ∀ b ∈ allH (newD S1 R1 A1 o1 w1 la1), H3 b = none := fun b hb => by
        rcases al0 b hb with z | z
        · exact fr4 b z
        · exact fresh_of1 s4 z
      have x2 : ∀ b ∈ allH (newD S2 R2 A2 o2 w2 la2), H5 b = none := fun b hb => by
        rcases al1 b hb with z | z
        · exact fr6 b z
        · exact fresh_of1 s6 z
      have x23 : ∀ b ∈ allH (newD S2 R2 A2 o2 w2 la2), H3 b = none := fun b hb => fresh_of1 (s4.trans s5) (x2 b hb)
      have no : ∀ {b u}, H3 b = some u → b ∉ allH (newD S1 R1 A1 o1 w1 la1) ∧ b ∉ allH (newD S2 R2 A2 o2 w2 la2) := fun {b u} e => ⟨(fun z => by rw [x1 b z] at e; cases e), (fun z => by rw [x23 b z] at e; cases e)⟩
      obtain ⟨uq, hq⟩ := q3
      have nL : ∀ {b u}, H7 b = some u → L ≠ b := fun {b u} e z => by rw [← z, fL] at e; cases e
      refine ⟨hd7.same s8, he0.same s8, fun z hz he => hd0.alive (mut_all hz) (x2 z he), fun z hz hd => hd0.alive hd (x2 z (mut_all hz)), (sm3.trans s37).trans s8, (hp3.same s37).same s8, (no hq).1, (no hq).2, s8 _ _ (s37 _ _ eA3), fun z => (no eA3).1 (mut_all z), fun z => (no eA3).2 (mut_all z), nAq, eL, fun z => hd7.alive (mut_all z) fL, fun z => he0.alive (mut_all z) fL, nL (s37 _ _ hq), fun b hb => fresh_of1 sm3 (x1 b hb), fun b hb => fresh_of1 sm3 (x23 b hb), fq⟩
    have hp8 := T0.pq
    clear fL s8 s7 s6 s5 s4 fS1 fS2 fA1 fA2 fR1 fR2 hd0 he0 al0 al1 W4 W6 fr4 fr6 f1 f2 g1 g2 n1 n2 eL eA3 hp3 sm3
    walk_at "w"
    rename_i r4 H9 p4 h3 h4
    have T1 := T0.px hp8 T0.q1 T0.q2 T0.aq.symm T0.lq.symm T0.fq p4
    have hpos : 0 < ps.length := List.length_pos_of_mem hz
    clear hp8 p4
    refine ⟨by omega, by omega, ?_⟩
    refine for_range (fun k σ H' => ∃ (x5 x6 x7 : Option V) (d e : HR), σ = [some (.ref a), some (.ref q), some (.ref A0), some (.bl gr), some (.ref L), x5, x6, x7] ∧ d.S = S1 ∧ e.S = S2 ∧ Law2 T.C_Ways H H' q A0 L ps [.ref S1, .ref S2] d e ∧ d.rs.length ≤ k ∧ e.rs.length ≤ k) ?_ ?_ ?_
    · exact ⟨none, none, none, _, _, rfl, rfl, rfl, T1, Nat.le_refl _, Nat.le_refl _⟩
    · rintro k σ H10 hk ⟨x5, x6, x7, d, e, rfl, ed, ee, T2, ld, le'⟩
      have ek : (0 : Int) + (k : Int) = (k : Int) := by omega
      rw [ek]
      walk_at "w"
      refine ⟨a, q, ns, (k : Int) + 2, rfl, Evl.ex_l T2.sm hS, by omega, by omega, by omega, T2.pq, fun m H11 s11 pm hm => ?_⟩
      obtain ⟨m1, m2, mA, mL, m0⟩ := T2.pool hm
      have T3 := T2.same s11
      have hSL : SqL K H11 L [.ref S1, .ref S2] := .inl (.inl T3.eL)
      have b0 : atI [V.ref S1, .ref S2] 0 = some (.ref S1) := rfl
      have b1 : atI [V.ref S1, .ref S2] 1 = some (.ref S2) := rfl
      walk_at "w"
      rename_i r5 H12 p5 h5 h6
      have T4 := T3.px pm m1 m2 mA mL m0 p5
      have pm2 := p5.pl
      have hSL2 : SqL K H12 L [.ref S1, .ref S2] := .inl (.inl T4.eL)
      by_cases hr5 : r5 = 3
      · rw [decide_eq_true hr5]
        walk_at "w"
        have T5 := T4.swap
        refine ⟨m, A0, e, ps, gr, by rw [ee], pm2, T5.hd, T5.eA, nd, hpos, by omega, mA.symm, m2, T5.a1, by omega, fun H13 H14 e' p6 x6 k6 l6 => ?_⟩
        have T6 := ((T5.px pm2 m2 m1 mA mL m0 p6).hx x6 k6).swap
        have ee' : e'.S = S2 := x6.eS.trans ee
        walk_at "w"
        refine ⟨L, d, e', ps, rfl, T6.hd, T6.he, by rw [ed, ee']; exact T6.eL, ?_⟩
        walk_at "w"
        exact ⟨_, _, _, d, e', rfl, ed, ee', T6, by omega, by omega⟩
      · rw [decide_eq_false hr5]
        walk_at "w"
        refine ⟨m, A0, d, ps, gr, by rw [ed], pm2, T4.hd, T4.eA, nd, hpos, by omega, mA.symm, m1, T4.a1, by omega, fun H13 H14 d' p6 x6 k6 l6 => ?_⟩
        have T6 := (T4.px pm2 m1 m2 mA mL m0 p6).hx x6 k6
        have ed' : d'.S = S1 := x6.eS.trans ed
        walk_at "w"
        refine ⟨L, d', e, ps, rfl, T6.hd, T6.he, by rw [ed', ee]; exact T6.eL, ?_⟩
        walk_at "w"
        exact ⟨_, _, _, d', e, rfl, ed', ee, T6, by omega, by omega⟩
    · rintro σ H10 ⟨x5, x6, x7, d, e, rfl, ed, ee, T2, ld, le'⟩
      have hSL : SqL K H10 L [.ref S1, .ref S2] := .inl (.inl T2.eL)
      have kd : d.rs.length < 50 := by omega
      have ke : e.rs.length < 50 := by omega
      have eL2 := T2.eL
      walk_at "w"
      refine for_list (K := K) (xs := [V.ref S1, .ref S2]) (fun i σ H' => ∃ (x7 : Option V) (d e : HR), σ = [some (.ref a), some (.ref q), some (.ref A0), some (.bl gr), some (.ref L), x5, x6, x7] ∧ d.S = S1 ∧ e.S = S2 ∧ Law2 T.C_Ways H H' q A0 L ps [.ref S1, .ref S2] d e ∧ (i = 0 → d.rs.length < 50) ∧ (i ≤ 1 → e.rs.length < 50)) ?_ ?_ ?_ ?_
      · exact ⟨_, d, e, rfl, ed, ee, T2, fun _ => kd, fun _ => ke⟩
      · rintro i σ H11 hi ⟨x7, d, e, rfl, ed, ee, T3, _⟩
        exact .inl (.inl T3.eL)
      · rintro i v σ H11 hv8 ⟨x7, d, e, rfl, ed, ee, T3, kd, ke⟩
        have hi := (List.getElem?_eq_some_iff.mp hv8).1
        have hi' : i = 0 ∨ i = 1 := by
          simp only [List.length_cons, List.length_nil] at hi
          omega
        rcases hi' with rfl | rfl
        · obtain rfl := Option.some.inj hv8
          walk_at "w"
          refine ⟨d, A0, ps, by rw [ed], T3.hd, T3.eA, nd, by omega, T3.a1, Nat.lt_trans (kd rfl) (by decide), fun H12 d' k6 x6 => ?_⟩
          have T6 := T3.hx x6 k6
          have ed' : d'.S = S1 := x6.eS.trans ed
          walk_at "w"
          refine ⟨L, d', e, ps, rfl, T6.hd, T6.he, by rw [ed', ee]; exact T6.eL, ?_⟩
          walk_at "w"
          exact ⟨_, d', e, rfl, ed', ee, T6, (fun z => by cases z), fun _ => ke (by decide)⟩
        · obtain rfl := Option.some.inj hv8
          have T5 := T3.swap
          walk_at "w"
          refine ⟨e, A0, ps, by rw [ee], T5.hd, T5.eA, nd, by omega, T5.a1, Nat.lt_trans (ke (Nat.le_refl _)) (by decide), fun H12 e' k6 x6 => ?_⟩
          have T6 := (T5.hx x6 k6).swap
          have ee' : e'.S = S2 := x6.eS.trans ee
          walk_at "w"
          refine ⟨L, d, e', ps, rfl, T6.hd, T6.he, by rw [ed, ee']; exact T6.eL, ?_⟩
          walk_at "w"
          exact ⟨_, d, e', rfl, ed, ee', T6, (fun z => by cases z), fun z => absurd z (by decide)⟩
      · rintro σ H11 ⟨x7, d, e, rfl, _⟩
        walk_at "w"
        exact h H11
end
end L

namespace X0
end X0
namespace L
open PySem PySem.Spec PyProof.Rows L2 Z X0
theorem all_mk {l : PySem.W.OpenLaw} {w : World} {K : PySem.W.Frag} {h : Heap} {mg : Str → Option Value} {fa : Addr} (X : K.In h) (G : h.Ns mainGlobals mg) (hfa : mg "law" = some (.ref fa))
    {f_pool : Addr} {od_pool an_pool : Option Addr} {sl_pool : Array (Option Value)} {oc_pool kV_pool dc_pool pm_pool cd_pool ct_pool  : Value}
    {f_take : Addr} {od_take an_take : Option Addr} {sl_take : Array (Option Value)} {oc_take kV_take dc_take pm_take cd_take ct_take  : Value}
    {f_turn : Addr} {od_turn an_turn : Option Addr} {sl_turn : Array (Option Value)} {oc_turn kV_turn dc_turn pm_turn cd_turn ct_turn  : Value}
    {f_places : Addr} {od_places an_places : Option Addr} {sl_places : Array (Option Value)} {oc_places kV_places dc_places pm_places cd_places ct_places  : Value}
    {f_whole : Addr} {od_whole an_whole : Option Addr} {sl_whole : Array (Option Value)} {oc_whole kV_whole dc_whole pm_whole cd_whole ct_whole  : Value}
    {f_heights : Addr} {od_heights an_heights : Option Addr} {sl_heights : Array (Option Value)} {oc_heights kV_heights dc_heights pm_heights cd_heights ct_heights  : Value}
    {f_reach : Addr} {od_reach an_reach : Option Addr} {sl_reach : Array (Option Value)} {oc_reach kV_reach dc_reach pm_reach cd_reach ct_reach  : Value}
    {f_ring : Addr} {od_ring an_ring : Option Addr} {sl_ring : Array (Option Value)} {oc_ring kV_ring dc_ring pm_ring cd_ring ct_ring  : Value}
    {f_drawn : Addr} {od_drawn an_drawn : Option Addr} {sl_drawn : Array (Option Value)} {oc_drawn kV_drawn dc_drawn pm_drawn cd_drawn ct_drawn  : Value}
    {f_add : Addr} {od_add an_add : Option Addr} {sl_add : Array (Option Value)} {oc_add kV_add dc_add pm_add cd_add ct_add  : Value}
    {f_back : Addr} {od_back an_back : Option Addr} {sl_back : Array (Option Value)} {oc_back kV_back dc_back pm_back cd_back ct_back  : Value}
    {f_settle : Addr} {od_settle an_settle : Option Addr} {sl_settle : Array (Option Value)} {oc_settle kV_settle dc_settle pm_settle cd_settle ct_settle  : Value}
    {f_look : Addr} {od_look an_look : Option Addr} {sl_look : Array (Option Value)} {oc_look kV_look dc_look pm_look cd_look ct_look  : Value}
    {f_deed : Addr} {od_deed an_deed : Option Addr} {sl_deed : Array (Option Value)} {oc_deed kV_deed dc_deed pm_deed cd_deed ct_deed  : Value}
    {f_counted : Addr} {od_counted an_counted : Option Addr} {sl_counted : Array (Option Value)} {oc_counted kV_counted dc_counted pm_counted cd_counted ct_counted  : Value}
    {f_end : Addr} {od_end an_end : Option Addr} {sl_end : Array (Option Value)} {oc_end kV_end dc_end pm_end cd_end ct_end  : Value}
    {f_law : Addr} {od_law an_law : Option Addr} {sl_law : Array (Option Value)} {oc_law kV_law dc_law pm_law cd_law ct_law  : Value}
    {C_Ways : Addr}
    {f_Ways_init : Addr} {od_Ways_init an_Ways_init : Option Addr} {sl_Ways_init : Array (Option Value)} {oc_Ways_init kV_Ways_init dc_Ways_init pm_Ways_init cd_Ways_init ct_Ways_init : Value}
    {f_Ways_limit : Addr} {od_Ways_limit an_Ways_limit : Option Addr} {sl_Ways_limit : Array (Option Value)} {oc_Ways_limit kV_Ways_limit dc_Ways_limit pm_Ways_limit cd_Ways_limit ct_Ways_limit : Value}
    {f_Ways_settle : Addr} {od_Ways_settle an_Ways_settle : Option Addr} {sl_Ways_settle : Array (Option Value)} {oc_Ways_settle kV_Ways_settle dc_Ways_settle pm_Ways_settle cd_Ways_settle ct_Ways_settle : Value}
    {f_Ways_heights : Addr} {od_Ways_heights an_Ways_heights : Option Addr} {sl_Ways_heights : Array (Option Value)} {oc_Ways_heights kV_Ways_heights dc_Ways_heights pm_Ways_heights cd_Ways_heights ct_Ways_heights : Value}
    {f_Ways_limits : Addr} {od_Ways_limits an_Ways_limits : Option Addr} {sl_Ways_limits : Array (Option Value)} {oc_Ways_limits kV_Ways_limits dc_Ways_limits pm_Ways_limits cd_Ways_limits ct_Ways_limits : Value}
    {f_Ways_back : Addr} {od_Ways_back an_Ways_back : Option Addr} {sl_Ways_back : Array (Option Value)} {oc_Ways_back kV_Ways_back dc_Ways_back pm_Ways_back cd_Ways_back ct_Ways_back : Value}
    {f_Ways_fall : Addr} {od_Ways_fall an_Ways_fall : Option Addr} {sl_Ways_fall : Array (Option Value)} {oc_Ways_fall kV_Ways_fall dc_Ways_fall pm_Ways_fall cd_Ways_fall ct_Ways_fall : Value}
    {f_Ways_pulls : Addr} {od_Ways_pulls an_Ways_pulls : Option Addr} {sl_Ways_pulls : Array (Option Value)} {oc_Ways_pulls kV_Ways_pulls dc_Ways_pulls pm_Ways_pulls cd_Ways_pulls ct_Ways_pulls : Value}
    {f_Ways_ring : Addr} {od_Ways_ring an_Ways_ring : Option Addr} {sl_Ways_ring : Array (Option Value)} {oc_Ways_ring kV_Ways_ring dc_Ways_ring pm_Ways_ring cd_Ways_ring ct_Ways_ring : Value}
    (a_pool : PySem.W.nsIn K mainGlobals "_law_pool" = some (some (.ref f_pool)))
    (l_pool : K.lookup f_pool = some ⟨oc_pool, od_pool, .func (PySem.W.fnOf "_law_pool" "_law_pool" (defArgs s_pool) (defBody s_pool) (defScope s_pool) .none kV_pool dc_pool pm_pool an_pool cd_pool ct_pool), sl_pool⟩)
    (c_pool : PySem.W.codeIn K cd_pool "_law_pool" = true)
    (k_pool : PySem.W.keepIn K (.ref f_pool) = true)
    (a_take : PySem.W.nsIn K mainGlobals "_law_take" = some (some (.ref f_take)))
    (l_take : K.lookup f_take = some ⟨oc_take, od_take, .func (PySem.W.fnOf "_law_take" "_law_take" (defArgs s_take) (defBody s_take) (defScope s_take) .none kV_take dc_take pm_take an_take cd_take ct_take), sl_take⟩)
    (c_take : PySem.W.codeIn K cd_take "_law_take" = true)
    (k_take : PySem.W.keepIn K (.ref f_take) = true)
    (a_turn : PySem.W.nsIn K mainGlobals "_law_turn" = some (some (.ref f_turn)))
    (l_turn : K.lookup f_turn = some ⟨oc_turn, od_turn, .func (PySem.W.fnOf "_law_turn" "_law_turn" (defArgs s_turn) (defBody s_turn) (defScope s_turn) .none kV_turn dc_turn pm_turn an_turn cd_turn ct_turn), sl_turn⟩)
    (c_turn : PySem.W.codeIn K cd_turn "_law_turn" = true)
    (k_turn : PySem.W.keepIn K (.ref f_turn) = true)
    (a_places : PySem.W.nsIn K mainGlobals "_law_places" = some (some (.ref f_places)))
    (l_places : K.lookup f_places = some ⟨oc_places, od_places, .func (PySem.W.fnOf "_law_places" "_law_places" (defArgs s_places) (defBody s_places) (defScope s_places) .none kV_places dc_places pm_places an_places cd_places ct_places), sl_places⟩)
    (c_places : PySem.W.codeIn K cd_places "_law_places" = true)
    (k_places : PySem.W.keepIn K (.ref f_places) = true)
    (a_whole : PySem.W.nsIn K mainGlobals "_law_whole" = some (some (.ref f_whole)))
    (l_whole : K.lookup f_whole = some ⟨oc_whole, od_whole, .func (PySem.W.fnOf "_law_whole" "_law_whole" (defArgs s_whole) (defBody s_whole) (defScope s_whole) .none kV_whole dc_whole pm_whole an_whole cd_whole ct_whole), sl_whole⟩)
    (c_whole : PySem.W.codeIn K cd_whole "_law_whole" = true)
    (k_whole : PySem.W.keepIn K (.ref f_whole) = true)
    (a_heights : PySem.W.nsIn K mainGlobals "_law_heights" = some (some (.ref f_heights)))
    (l_heights : K.lookup f_heights = some ⟨oc_heights, od_heights, .func (PySem.W.fnOf "_law_heights" "_law_heights" (defArgs s_heights) (defBody s_heights) (defScope s_heights) .none kV_heights dc_heights pm_heights an_heights cd_heights ct_heights), sl_heights⟩)
    (c_heights : PySem.W.codeIn K cd_heights "_law_heights" = true)
    (k_heights : PySem.W.keepIn K (.ref f_heights) = true)
    (a_reach : PySem.W.nsIn K mainGlobals "_law_reach" = some (some (.ref f_reach)))
    (l_reach : K.lookup f_reach = some ⟨oc_reach, od_reach, .func (PySem.W.fnOf "_law_reach" "_law_reach" (defArgs s_reach) (defBody s_reach) (defScope s_reach) .none kV_reach dc_reach pm_reach an_reach cd_reach ct_reach), sl_reach⟩)
    (c_reach : PySem.W.codeIn K cd_reach "_law_reach" = true)
    (k_reach : PySem.W.keepIn K (.ref f_reach) = true)
    (a_ring : PySem.W.nsIn K mainGlobals "_law_ring" = some (some (.ref f_ring)))
    (l_ring : K.lookup f_ring = some ⟨oc_ring, od_ring, .func (PySem.W.fnOf "_law_ring" "_law_ring" (defArgs s_ring) (defBody s_ring) (defScope s_ring) .none kV_ring dc_ring pm_ring an_ring cd_ring ct_ring), sl_ring⟩)
    (c_ring : PySem.W.codeIn K cd_ring "_law_ring" = true)
    (k_ring : PySem.W.keepIn K (.ref f_ring) = true)
    (a_drawn : PySem.W.nsIn K mainGlobals "_law_drawn" = some (some (.ref f_drawn)))
    (l_drawn : K.lookup f_drawn = some ⟨oc_drawn, od_drawn, .func (PySem.W.fnOf "_law_drawn" "_law_drawn" (defArgs s_drawn) (defBody s_drawn) (defScope s_drawn) .none kV_drawn dc_drawn pm_drawn an_drawn cd_drawn ct_drawn), sl_drawn⟩)
    (c_drawn : PySem.W.codeIn K cd_drawn "_law_drawn" = true)
    (k_drawn : PySem.W.keepIn K (.ref f_drawn) = true)
    (a_add : PySem.W.nsIn K mainGlobals "_law_add" = some (some (.ref f_add)))
    (l_add : K.lookup f_add = some ⟨oc_add, od_add, .func (PySem.W.fnOf "_law_add" "_law_add" (defArgs s_add) (defBody s_add) (defScope s_add) .none kV_add dc_add pm_add an_add cd_add ct_add), sl_add⟩)
    (c_add : PySem.W.codeIn K cd_add "_law_add" = true)
    (k_add : PySem.W.keepIn K (.ref f_add) = true)
    (a_back : PySem.W.nsIn K mainGlobals "_law_back" = some (some (.ref f_back)))
    (l_back : K.lookup f_back = some ⟨oc_back, od_back, .func (PySem.W.fnOf "_law_back" "_law_back" (defArgs s_back) (defBody s_back) (defScope s_back) .none kV_back dc_back pm_back an_back cd_back ct_back), sl_back⟩)
    (c_back : PySem.W.codeIn K cd_back "_law_back" = true)
    (k_back : PySem.W.keepIn K (.ref f_back) = true)
    (a_settle : PySem.W.nsIn K mainGlobals "_law_settle" = some (some (.ref f_settle)))
    (l_settle : K.lookup f_settle = some ⟨oc_settle, od_settle, .func (PySem.W.fnOf "_law_settle" "_law_settle" (defArgs s_settle) (defBody s_settle) (defScope s_settle) .none kV_settle dc_settle pm_settle an_settle cd_settle ct_settle), sl_settle⟩)
    (c_settle : PySem.W.codeIn K cd_settle "_law_settle" = true)
    (k_settle : PySem.W.keepIn K (.ref f_settle) = true)
    (a_look : PySem.W.nsIn K mainGlobals "_law_look" = some (some (.ref f_look)))
    (l_look : K.lookup f_look = some ⟨oc_look, od_look, .func (PySem.W.fnOf "_law_look" "_law_look" (defArgs s_look) (defBody s_look) (defScope s_look) .none kV_look dc_look pm_look an_look cd_look ct_look), sl_look⟩)
    (c_look : PySem.W.codeIn K cd_look "_law_look" = true)
    (k_look : PySem.W.keepIn K (.ref f_look) = true)
    (a_deed : PySem.W.nsIn K mainGlobals "_law_deed" = some (some (.ref f_deed)))
    (l_deed : K.lookup f_deed = some ⟨oc_deed, od_deed, .func (PySem.W.fnOf "_law_deed" "_law_deed" (defArgs s_deed) (defBody s_deed) (defScope s_deed) .none kV_deed dc_deed pm_deed an_deed cd_deed ct_deed), sl_deed⟩)
    (c_deed : PySem.W.codeIn K cd_deed "_law_deed" = true)
    (k_deed : PySem.W.keepIn K (.ref f_deed) = true)
    (a_counted : PySem.W.nsIn K mainGlobals "_law_counted" = some (some (.ref f_counted)))
    (l_counted : K.lookup f_counted = some ⟨oc_counted, od_counted, .func (PySem.W.fnOf "_law_counted" "_law_counted" (defArgs s_counted) (defBody s_counted) (defScope s_counted) .none kV_counted dc_counted pm_counted an_counted cd_counted ct_counted), sl_counted⟩)
    (c_counted : PySem.W.codeIn K cd_counted "_law_counted" = true)
    (k_counted : PySem.W.keepIn K (.ref f_counted) = true)
    (a_end : PySem.W.nsIn K mainGlobals "_law_end" = some (some (.ref f_end)))
    (l_end : K.lookup f_end = some ⟨oc_end, od_end, .func (PySem.W.fnOf "_law_end" "_law_end" (defArgs s_end) (defBody s_end) (defScope s_end) .none kV_end dc_end pm_end an_end cd_end ct_end), sl_end⟩)
    (c_end : PySem.W.codeIn K cd_end "_law_end" = true)
    (k_end : PySem.W.keepIn K (.ref f_end) = true)
    (a_law : PySem.W.nsIn K mainGlobals "law" = some (some (.ref f_law)))
    (l_law : K.lookup f_law = some ⟨oc_law, od_law, .func (PySem.W.fnOf "law" "law" (defArgs s_law) (defBody s_law) (defScope s_law) .none kV_law dc_law pm_law an_law cd_law ct_law), sl_law⟩)
    (c_law : PySem.W.codeIn K cd_law "law" = true)
    (k_law : PySem.W.keepIn K (.ref f_law) = true)
    (m_len : PySem.W.nsIn K mainGlobals "len" = some none)
    (m_int : PySem.W.nsIn K mainGlobals "int" = some none)
    (m_abs : PySem.W.nsIn K mainGlobals "abs" = some none)
    (m_max : PySem.W.nsIn K mainGlobals "max" = some none)
    (m_isinstance : PySem.W.nsIn K mainGlobals "isinstance" = some none)
    (m_range : PySem.W.nsIn K mainGlobals "range" = some none)
    (m_bool : PySem.W.nsIn K mainGlobals "bool" = some none)
    (m_list : PySem.W.nsIn K mainGlobals "list" = some none)
    (m_sorted : PySem.W.nsIn K mainGlobals "sorted" = some none)
    (m_dict : PySem.W.nsIn K mainGlobals "dict" = some none)
    (n_Ways : PySem.W.nsIn K mainGlobals "Ways" = some (some (.ref C_Ways)))
    (a_Ways_init : PySem.W.findIn K (.ref C_Ways) "__init__" = some (some (.ref f_Ways_init)))
    (i_Ways_init : PySem.W.typeIn K (.ref f_Ways_init) = some (.type "function"))
    (l_Ways_init : K.lookup f_Ways_init = some ⟨oc_Ways_init, od_Ways_init, .func (PySem.W.fnOf "__init__" "Ways.__init__" (defArgs s_Ways_init) (defBody s_Ways_init) (defScope s_Ways_init) .none kV_Ways_init dc_Ways_init pm_Ways_init an_Ways_init cd_Ways_init ct_Ways_init), sl_Ways_init⟩)
    (c_Ways_init : PySem.W.codeIn K cd_Ways_init "Ways.__init__" = true)
    (k_Ways_init : PySem.W.keepIn K (.ref f_Ways_init) = true)
    (a_Ways_limit : PySem.W.findIn K (.ref C_Ways) "limit" = some (some (.ref f_Ways_limit)))
    (i_Ways_limit : PySem.W.typeIn K (.ref f_Ways_limit) = some (.type "function"))
    (l_Ways_limit : K.lookup f_Ways_limit = some ⟨oc_Ways_limit, od_Ways_limit, .func (PySem.W.fnOf "limit" "Ways.limit" (defArgs s_Ways_limit) (defBody s_Ways_limit) (defScope s_Ways_limit) .none kV_Ways_limit dc_Ways_limit pm_Ways_limit an_Ways_limit cd_Ways_limit ct_Ways_limit), sl_Ways_limit⟩)
    (c_Ways_limit : PySem.W.codeIn K cd_Ways_limit "Ways.limit" = true)
    (k_Ways_limit : PySem.W.keepIn K (.ref f_Ways_limit) = true)
    (a_Ways_settle : PySem.W.findIn K (.ref C_Ways) "settle" = some (some (.ref f_Ways_settle)))
    (i_Ways_settle : PySem.W.typeIn K (.ref f_Ways_settle) = some (.type "function"))
    (l_Ways_settle : K.lookup f_Ways_settle = some ⟨oc_Ways_settle, od_Ways_settle, .func (PySem.W.fnOf "settle" "Ways.settle" (defArgs s_Ways_settle) (defBody s_Ways_settle) (defScope s_Ways_settle) .none kV_Ways_settle dc_Ways_settle pm_Ways_settle an_Ways_settle cd_Ways_settle ct_Ways_settle), sl_Ways_settle⟩)
    (c_Ways_settle : PySem.W.codeIn K cd_Ways_settle "Ways.settle" = true)
    (k_Ways_settle : PySem.W.keepIn K (.ref f_Ways_settle) = true)
    (a_Ways_heights : PySem.W.findIn K (.ref C_Ways) "heights" = some (some (.ref f_Ways_heights)))
    (i_Ways_heights : PySem.W.typeIn K (.ref f_Ways_heights) = some (.type "function"))
    (l_Ways_heights : K.lookup f_Ways_heights = some ⟨oc_Ways_heights, od_Ways_heights, .func (PySem.W.fnOf "heights" "Ways.heights" (defArgs s_Ways_heights) (defBody s_Ways_heights) (defScope s_Ways_heights) .none kV_Ways_heights dc_Ways_heights pm_Ways_heights an_Ways_heights cd_Ways_heights ct_Ways_heights), sl_Ways_heights⟩)
    (c_Ways_heights : PySem.W.codeIn K cd_Ways_heights "Ways.heights" = true)
    (k_Ways_heights : PySem.W.keepIn K (.ref f_Ways_heights) = true)
    (a_Ways_limits : PySem.W.findIn K (.ref C_Ways) "limits" = some (some (.ref f_Ways_limits)))
    (i_Ways_limits : PySem.W.typeIn K (.ref f_Ways_limits) = some (.type "function"))
    (l_Ways_limits : K.lookup f_Ways_limits = some ⟨oc_Ways_limits, od_Ways_limits, .func (PySem.W.fnOf "limits" "Ways.limits" (defArgs s_Ways_limits) (defBody s_Ways_limits) (defScope s_Ways_limits) .none kV_Ways_limits dc_Ways_limits pm_Ways_limits an_Ways_limits cd_Ways_limits ct_Ways_limits), sl_Ways_limits⟩)
    (c_Ways_limits : PySem.W.codeIn K cd_Ways_limits "Ways.limits" = true)
    (k_Ways_limits : PySem.W.keepIn K (.ref f_Ways_limits) = true)
    (a_Ways_back : PySem.W.findIn K (.ref C_Ways) "back" = some (some (.ref f_Ways_back)))
    (i_Ways_back : PySem.W.typeIn K (.ref f_Ways_back) = some (.type "function"))
    (l_Ways_back : K.lookup f_Ways_back = some ⟨oc_Ways_back, od_Ways_back, .func (PySem.W.fnOf "back" "Ways.back" (defArgs s_Ways_back) (defBody s_Ways_back) (defScope s_Ways_back) .none kV_Ways_back dc_Ways_back pm_Ways_back an_Ways_back cd_Ways_back ct_Ways_back), sl_Ways_back⟩)
    (c_Ways_back : PySem.W.codeIn K cd_Ways_back "Ways.back" = true)
    (k_Ways_back : PySem.W.keepIn K (.ref f_Ways_back) = true)
    (a_Ways_fall : PySem.W.findIn K (.ref C_Ways) "_fall" = some (some (.ref f_Ways_fall)))
    (i_Ways_fall : PySem.W.typeIn K (.ref f_Ways_fall) = some (.type "function"))
    (l_Ways_fall : K.lookup f_Ways_fall = some ⟨oc_Ways_fall, od_Ways_fall, .func (PySem.W.fnOf "_fall" "Ways._fall" (defArgs s_Ways_fall) (defBody s_Ways_fall) (defScope s_Ways_fall) .none kV_Ways_fall dc_Ways_fall pm_Ways_fall an_Ways_fall cd_Ways_fall ct_Ways_fall), sl_Ways_fall⟩)
    (c_Ways_fall : PySem.W.codeIn K cd_Ways_fall "Ways._fall" = true)
    (k_Ways_fall : PySem.W.keepIn K (.ref f_Ways_fall) = true)
    (a_Ways_pulls : PySem.W.findIn K (.ref C_Ways) "_pulls" = some (some (.ref f_Ways_pulls)))
    (i_Ways_pulls : PySem.W.typeIn K (.ref f_Ways_pulls) = some (.type "function"))
    (l_Ways_pulls : K.lookup f_Ways_pulls = some ⟨oc_Ways_pulls, od_Ways_pulls, .func (PySem.W.fnOf "_pulls" "Ways._pulls" (defArgs s_Ways_pulls) (defBody s_Ways_pulls) (defScope s_Ways_pulls) .none kV_Ways_pulls dc_Ways_pulls pm_Ways_pulls an_Ways_pulls cd_Ways_pulls ct_Ways_pulls), sl_Ways_pulls⟩)
    (c_Ways_pulls : PySem.W.codeIn K cd_Ways_pulls "Ways._pulls" = true)
    (k_Ways_pulls : PySem.W.keepIn K (.ref f_Ways_pulls) = true)
    (a_Ways_ring : PySem.W.findIn K (.ref C_Ways) "_ring" = some (some (.ref f_Ways_ring)))
    (i_Ways_ring : PySem.W.typeIn K (.ref f_Ways_ring) = some (.type "function"))
    (l_Ways_ring : K.lookup f_Ways_ring = some ⟨oc_Ways_ring, od_Ways_ring, .func (PySem.W.fnOf "_ring" "Ways._ring" (defArgs s_Ways_ring) (defBody s_Ways_ring) (defScope s_Ways_ring) .none kV_Ways_ring dc_Ways_ring pm_Ways_ring an_Ways_ring cd_Ways_ring ct_Ways_ring), sl_Ways_ring⟩)
    (c_Ways_ring : PySem.W.codeIn K cd_Ways_ring "Ways._ring" = true)
    (k_Ways_ring : PySem.W.keepIn K (.ref f_Ways_ring) = true)
    (pg_Ways : PySem.W.plainGet K C_Ways Str.empty = true)
    (hd_Ways : PySem.W.hasDictIn K C_Ways = true)
    (po_Ways : PySem.W.plainOver K C_Ways = true)
    (sa_Ways : PySem.W.findIn K (.ref C_Ways) "__setattr__" = some (some (.builtin "object.__setattr__")))
    (mk_Ways : PySem.W.makesIn K C_Ways = true)
    (kc_Ways : PySem.W.keepIn K (.ref C_Ways) = true)
    (nf_Ways__limits : PySem.W.findIn K (.ref C_Ways) "_limits" = some none)
    (nf_Ways__settled : PySem.W.findIn K (.ref C_Ways) "_settled" = some none)
    (nf_Ways__heights : PySem.W.findIn K (.ref C_Ways) "_heights" = some none)
    (nf_Ways__leaning : PySem.W.findIn K (.ref C_Ways) "_leaning" = some none)
    (mgheappop : PySem.W.nsIn K mainGlobals "heappop" = some (some (.builtin "_heapq.heappop")))
    (mgheappush : PySem.W.nsIn K mainGlobals "heappush" = some (some (.builtin "_heapq.heappush"))) :
    ∃ fd : FuncData, (∀ (s : Shared) (v : Value), BindsTo s fd ⟨[v], []⟩ [("_law_script", v)]) ∧ ∀ base : Heap, K.In base → base.Ns mainGlobals mg → FnOk l.prog w K mg base CX0 7 fa fd ["_law_script"] (spLaw K) := by
  have e := hfa.symm.trans (PySem.W.mg_of X G a_law)
  have e2 : f_law = fa := by
    cases e
    rfl
  subst e2
  let T : Txt K mg := {
    f_pool := f_pool, fd_pool := _, F_pool := fun_mk (st := s_pool) l_pool c_pool k_pool, b_pool := (fun_mk (st := s_pool) l_pool c_pool k_pool).binds (ps := ["_law_script", "_law_k"]) fun _ _ _ _ _ _ us hl => match us, hl with | [_, _], _ => rfl, g_pool := PySem.W.mg_of X G a_pool,
    f_take := f_take, fd_take := _, F_take := fun_mk (st := s_take) l_take c_take k_take, b_take := (fun_mk (st := s_take) l_take c_take k_take).binds (ps := ["_law_pool_here", "_law_size"]) fun _ _ _ _ _ _ us hl => match us, hl with | [_, _], _ => rfl, g_take := PySem.W.mg_of X G a_take,
    f_turn := f_turn, fd_turn := _, F_turn := fun_mk (st := s_turn) l_turn c_turn k_turn, b_turn := (fun_mk (st := s_turn) l_turn c_turn k_turn).binds (ps := ["_law_script", "_law_pool_here", "_law_k"]) fun _ _ _ _ _ _ us hl => match us, hl with | [_, _, _], _ => rfl, g_turn := PySem.W.mg_of X G a_turn,
    f_places := f_places, fd_places := _, F_places := fun_mk (st := s_places) l_places c_places k_places, b_places := (fun_mk (st := s_places) l_places c_places k_places).binds (ps := ["_law_pool_here"]) fun _ _ _ _ _ _ us hl => match us, hl with | [_], _ => rfl, g_places := PySem.W.mg_of X G a_places,
    f_whole := f_whole, fd_whole := _, F_whole := fun_mk (st := s_whole) l_whole c_whole k_whole, b_whole := (fun_mk (st := s_whole) l_whole c_whole k_whole).binds (ps := ["_law_value"]) fun _ _ _ _ _ _ us hl => match us, hl with | [_], _ => rfl, g_whole := PySem.W.mg_of X G a_whole,
    f_heights := f_heights, fd_heights := _, F_heights := fun_mk (st := s_heights) l_heights c_heights k_heights, b_heights := (fun_mk (st := s_heights) l_heights c_heights k_heights).binds (ps := ["_law_limits", "_law_places_here"]) fun _ _ _ _ _ _ us hl => match us, hl with | [_, _], _ => rfl, g_heights := PySem.W.mg_of X G a_heights,
    f_reach := f_reach, fd_reach := _, F_reach := fun_mk (st := s_reach) l_reach c_reach k_reach, b_reach := (fun_mk (st := s_reach) l_reach c_reach k_reach).binds (ps := ["_law_limits", "_law_places_here", "_law_start"]) fun _ _ _ _ _ _ us hl => match us, hl with | [_, _, _], _ => rfl, g_reach := PySem.W.mg_of X G a_reach,
    f_ring := f_ring, fd_ring := _, F_ring := fun_mk (st := s_ring) l_ring c_ring k_ring, b_ring := (fun_mk (st := s_ring) l_ring c_ring k_ring).binds (ps := ["_law_told", "_law_rows"]) fun _ _ _ _ _ _ us hl => match us, hl with | [_, _], _ => rfl, g_ring := PySem.W.mg_of X G a_ring,
    f_drawn := f_drawn, fd_drawn := _, F_drawn := fun_mk (st := s_drawn) l_drawn c_drawn k_drawn, b_drawn := (fun_mk (st := s_drawn) l_drawn c_drawn k_drawn).binds (ps := ["_law_pool_here", "_law_house", "_law_places_here", "_law_great"]) fun _ _ _ _ _ _ us hl => match us, hl with | [_, _, _, _], _ => rfl, g_drawn := PySem.W.mg_of X G a_drawn,
    f_add := f_add, fd_add := _, F_add := fun_mk (st := s_add) l_add c_add k_add, b_add := (fun_mk (st := s_add) l_add c_add k_add).binds (ps := ["_law_house", "_law_row"]) fun _ _ _ _ _ _ us hl => match us, hl with | [_, _], _ => rfl, g_add := PySem.W.mg_of X G a_add,
    f_back := f_back, fd_back := _, F_back := fun_mk (st := s_back) l_back c_back k_back, b_back := (fun_mk (st := s_back) l_back c_back k_back).binds (ps := ["_law_house", "_law_count"]) fun _ _ _ _ _ _ us hl => match us, hl with | [_, _], _ => rfl, g_back := PySem.W.mg_of X G a_back,
    f_settle := f_settle, fd_settle := _, F_settle := fun_mk (st := s_settle) l_settle c_settle k_settle, b_settle := (fun_mk (st := s_settle) l_settle c_settle k_settle).binds (ps := ["_law_house", "_law_places_here"]) fun _ _ _ _ _ _ us hl => match us, hl with | [_, _], _ => rfl, g_settle := PySem.W.mg_of X G a_settle,
    f_look := f_look, fd_look := _, F_look := fun_mk (st := s_look) l_look c_look k_look, b_look := (fun_mk (st := s_look) l_look c_look k_look).binds (ps := ["_law_house"]) fun _ _ _ _ _ _ us hl => match us, hl with | [_], _ => rfl, g_look := PySem.W.mg_of X G a_look,
    f_deed := f_deed, fd_deed := _, F_deed := fun_mk (st := s_deed) l_deed c_deed k_deed, b_deed := (fun_mk (st := s_deed) l_deed c_deed k_deed).binds (ps := ["_law_pool_here", "_law_house", "_law_places_here", "_law_great"]) fun _ _ _ _ _ _ us hl => match us, hl with | [_, _, _, _], _ => rfl, g_deed := PySem.W.mg_of X G a_deed,
    f_counted := f_counted, fd_counted := _, F_counted := fun_mk (st := s_counted) l_counted c_counted k_counted, b_counted := (fun_mk (st := s_counted) l_counted c_counted k_counted).binds (ps := ["_law_pair"]) fun _ _ _ _ _ _ us hl => match us, hl with | [_], _ => rfl, g_counted := PySem.W.mg_of X G a_counted,
    f_end := f_end, fd_end := _, F_end := fun_mk (st := s_end) l_end c_end k_end, b_end := (fun_mk (st := s_end) l_end c_end k_end).binds (ps := ["_law_house", "_law_places_here"]) fun _ _ _ _ _ _ us hl => match us, hl with | [_, _], _ => rfl, g_end := PySem.W.mg_of X G a_end,
    f_law := f_law, fd_law := _, F_law := fun_mk (st := s_law) l_law c_law k_law, b_law := (fun_mk (st := s_law) l_law c_law k_law).binds (ps := ["_law_script"]) fun _ _ _ _ _ _ us hl => match us, hl with | [_], _ => rfl, g_law := PySem.W.mg_of X G a_law,
    m_len := PySem.W.mg_none_of X G m_len,
    m_int := PySem.W.mg_none_of X G m_int,
    m_abs := PySem.W.mg_none_of X G m_abs,
    m_max := PySem.W.mg_none_of X G m_max,
    m_isinstance := PySem.W.mg_none_of X G m_isinstance,
    m_range := PySem.W.mg_none_of X G m_range,
    m_bool := PySem.W.mg_none_of X G m_bool,
    m_list := PySem.W.mg_none_of X G m_list,
    m_sorted := PySem.W.mg_none_of X G m_sorted,
    m_dict := PySem.W.mg_none_of X G m_dict,
    f_Ways_init := f_Ways_init, fd_Ways_init := _, F_Ways_init := fun_mk (st := s_Ways_init) l_Ways_init c_Ways_init k_Ways_init, b_Ways_init := (fun_mk (st := s_Ways_init) l_Ways_init c_Ways_init k_Ways_init).binds (ps := ["self"]) fun _ _ _ _ _ _ us hl => match us, hl with | [_], _ => rfl,
    f_Ways_limit := f_Ways_limit, fd_Ways_limit := _, F_Ways_limit := fun_mk (st := s_Ways_limit) l_Ways_limit c_Ways_limit k_Ways_limit, b_Ways_limit := (fun_mk (st := s_Ways_limit) l_Ways_limit c_Ways_limit k_Ways_limit).binds (ps := ["self", "x", "y", "k", "label"]) fun _ _ _ _ _ _ us hl => match us, hl with | [_, _, _, _, _], _ => rfl,
    f_Ways_settle := f_Ways_settle, fd_Ways_settle := _, F_Ways_settle := fun_mk (st := s_Ways_settle) l_Ways_settle c_Ways_settle k_Ways_settle, b_Ways_settle := (fun_mk (st := s_Ways_settle) l_Ways_settle c_Ways_settle k_Ways_settle).binds (ps := ["self"]) fun _ _ _ _ _ _ us hl => match us, hl with | [_], _ => rfl,
    f_Ways_heights := f_Ways_heights, fd_Ways_heights := _, F_Ways_heights := fun_mk (st := s_Ways_heights) l_Ways_heights c_Ways_heights k_Ways_heights, b_Ways_heights := (fun_mk (st := s_Ways_heights) l_Ways_heights c_Ways_heights k_Ways_heights).binds (ps := ["self"]) fun _ _ _ _ _ _ us hl => match us, hl with | [_], _ => rfl,
    f_Ways_limits := f_Ways_limits, fd_Ways_limits := _, F_Ways_limits := fun_mk (st := s_Ways_limits) l_Ways_limits c_Ways_limits k_Ways_limits, b_Ways_limits := (fun_mk (st := s_Ways_limits) l_Ways_limits c_Ways_limits k_Ways_limits).binds (ps := ["self"]) fun _ _ _ _ _ _ us hl => match us, hl with | [_], _ => rfl,
    f_Ways_back := f_Ways_back, fd_Ways_back := _, F_Ways_back := fun_mk (st := s_Ways_back) l_Ways_back c_Ways_back k_Ways_back, b_Ways_back := (fun_mk (st := s_Ways_back) l_Ways_back c_Ways_back k_Ways_back).binds (ps := ["self", "count"]) fun _ _ _ _ _ _ us hl => match us, hl with | [_, _], _ => rfl,
    f_Ways_fall := f_Ways_fall, fd_Ways_fall := _, F_Ways_fall := fun_mk (st := s_Ways_fall) l_Ways_fall c_Ways_fall k_Ways_fall, b_Ways_fall := (fun_mk (st := s_Ways_fall) l_Ways_fall c_Ways_fall k_Ways_fall).binds (ps := ["self", "number"]) fun _ _ _ _ _ _ us hl => match us, hl with | [_, _], _ => rfl,
    f_Ways_pulls := f_Ways_pulls, fd_Ways_pulls := _, F_Ways_pulls := fun_mk (st := s_Ways_pulls) l_Ways_pulls c_Ways_pulls k_Ways_pulls, b_Ways_pulls := (fun_mk (st := s_Ways_pulls) l_Ways_pulls c_Ways_pulls k_Ways_pulls).binds (ps := ["self", "place", "fallen"]) fun _ _ _ _ _ _ us hl => match us, hl with | [_, _, _], _ => rfl,
    f_Ways_ring := f_Ways_ring, fd_Ways_ring := _, F_Ways_ring := fun_mk (st := s_Ways_ring) l_Ways_ring c_Ways_ring k_Ways_ring, b_Ways_ring := (fun_mk (st := s_Ways_ring) l_Ways_ring c_Ways_ring k_Ways_ring).binds (ps := ["self", "number", "last", "causes"]) fun _ _ _ _ _ _ us hl => match us, hl with | [_, _, _, _], _ => rfl,
    C_Ways := C_Ways, c_Ways := PySem.W.mg_of X G n_Ways, cl_Ways := ⟨pg_Ways, hd_Ways, po_Ways, sa_Ways⟩, mk_Ways := ⟨mk_Ways, a_Ways_init, beq_iff_eq.mpr i_Ways_init, kc_Ways⟩,
    n_Ways__limits := nf_Ways__limits,
    n_Ways__settled := nf_Ways__settled,
    n_Ways__heights := nf_Ways__heights,
    n_Ways__leaning := nf_Ways__leaning,
    M_Ways_init := ⟨a_Ways_init, beq_iff_eq.mpr i_Ways_init, k_Ways_init⟩,
    M_Ways_limit := ⟨a_Ways_limit, beq_iff_eq.mpr i_Ways_limit, k_Ways_limit⟩,
    M_Ways_settle := ⟨a_Ways_settle, beq_iff_eq.mpr i_Ways_settle, k_Ways_settle⟩,
    M_Ways_heights := ⟨a_Ways_heights, beq_iff_eq.mpr i_Ways_heights, k_Ways_heights⟩,
    M_Ways_limits := ⟨a_Ways_limits, beq_iff_eq.mpr i_Ways_limits, k_Ways_limits⟩,
    M_Ways_back := ⟨a_Ways_back, beq_iff_eq.mpr i_Ways_back, k_Ways_back⟩,
    M_Ways_fall := ⟨a_Ways_fall, beq_iff_eq.mpr i_Ways_fall, k_Ways_fall⟩,
    M_Ways_pulls := ⟨a_Ways_pulls, beq_iff_eq.mpr i_Ways_pulls, k_Ways_pulls⟩,
    M_Ways_ring := ⟨a_Ways_ring, beq_iff_eq.mpr i_Ways_ring, k_Ways_ring⟩,
    m_heappop := PySem.W.mg_of X G mgheappop,
    m_heappush := PySem.W.mg_of X G mgheappush }
  exact ⟨PySem.W.fnOf "law" "law" (defArgs s_law) (defBody s_law) (defScope s_law) .none kV_law dc_law pm_law an_law cd_law ct_law, fun s v => .of_eq rfl, fun base _ _ => ok_law T⟩
end L

open PySem PySem.W PyProof.Rows
set_option maxHeartbeats 0 in
theorem PySem.Challenge.cw_papersat_k45_whole_ways_with_backs_holds : PySem.Challenge.rw_papersat_k45_whole_ways_with_backs.Holds := by
  w_on; o_law; k_head; (case hw => w_witness2)
  k_fill
  refine L2.walk_of (l := PySem.Challenge.rw_papersat_k45_whole_ways_with_backs) (n := 63) (k := 7) (x := "_law_script") (CX := fun _ => L2.CX0) (sp := fun w => L.spLaw _) rfl (by decide) rfl ⟨rfl, by decide, by decide⟩ (fun w h Y => PySem.W.kIn_of Y) ?F (fun _ _ a ns hl _ hS => ⟨a, ns, rfl, hS, hl, fun _ => rfl⟩) (fun _ _ _ _ _ h => h)
  case F =>
    intro w mg fa h KX G hmg
    refine' L.all_mk KX G hmg ?a_pool ?l_pool ?c_pool ?k_pool ?a_take ?l_take ?c_take ?k_take ?a_turn ?l_turn ?c_turn ?k_turn ?a_places ?l_places ?c_places ?k_places ?a_whole ?l_whole ?c_whole ?k_whole ?a_heights ?l_heights ?c_heights ?k_heights ?a_reach ?l_reach ?c_reach ?k_reach ?a_ring ?l_ring ?c_ring ?k_ring ?a_drawn ?l_drawn ?c_drawn ?k_drawn ?a_add ?l_add ?c_add ?k_add ?a_back ?l_back ?c_back ?k_back ?a_settle ?l_settle ?c_settle ?k_settle ?a_look ?l_look ?c_look ?k_look ?a_deed ?l_deed ?c_deed ?k_deed ?a_counted ?l_counted ?c_counted ?k_counted ?a_end ?l_end ?c_end ?k_end ?a_law ?l_law ?c_law ?k_law ?m_len ?m_int ?m_abs ?m_max ?m_isinstance ?m_range ?m_bool ?m_list ?m_sorted ?m_dict ?n_Ways ?a_Ways_init ?i_Ways_init ?l_Ways_init ?c_Ways_init ?k_Ways_init ?a_Ways_limit ?i_Ways_limit ?l_Ways_limit ?c_Ways_limit ?k_Ways_limit ?a_Ways_settle ?i_Ways_settle ?l_Ways_settle ?c_Ways_settle ?k_Ways_settle ?a_Ways_heights ?i_Ways_heights ?l_Ways_heights ?c_Ways_heights ?k_Ways_heights ?a_Ways_limits ?i_Ways_limits ?l_Ways_limits ?c_Ways_limits ?k_Ways_limits ?a_Ways_back ?i_Ways_back ?l_Ways_back ?c_Ways_back ?k_Ways_back ?a_Ways_fall ?i_Ways_fall ?l_Ways_fall ?c_Ways_fall ?k_Ways_fall ?a_Ways_pulls ?i_Ways_pulls ?l_Ways_pulls ?c_Ways_pulls ?k_Ways_pulls ?a_Ways_ring ?i_Ways_ring ?l_Ways_ring ?c_Ways_ring ?k_Ways_ring ?pg_Ways ?hd_Ways ?po_Ways ?sa_Ways ?mk_Ways ?kc_Ways ?nf_Ways__limits ?nf_Ways__settled ?nf_Ways__heights ?nf_Ways__leaning ?mgheappop ?mgheappush
    (case a_pool => first | k_is | k_exc | rfl | kernel_rfl); (case l_pool => first | k_is | k_exc | rfl | kernel_rfl); (case c_pool => first | k_is | k_exc | rfl | kernel_rfl); (case k_pool => first | k_is | k_exc | rfl | kernel_rfl); (case a_take => first | k_is | k_exc | rfl | kernel_rfl); (case l_take => first | k_is | k_exc | rfl | kernel_rfl); (case c_take => first | k_is | k_exc | rfl | kernel_rfl); (case k_take => first | k_is | k_exc | rfl | kernel_rfl); (case a_turn => first | k_is | k_exc | rfl | kernel_rfl); (case l_turn => first | k_is | k_exc | rfl | kernel_rfl); (case c_turn => first | k_is | k_exc | rfl | kernel_rfl); (case k_turn => first | k_is | k_exc | rfl | kernel_rfl); (case a_places => first | k_is | k_exc | rfl | kernel_rfl); (case l_places => first | k_is | k_exc | rfl | kernel_rfl); (case c_places => first | k_is | k_exc | rfl | kernel_rfl); (case k_places => first | k_is | k_exc | rfl | kernel_rfl); (case a_whole => first | k_is | k_exc | rfl | kernel_rfl); (case l_whole => first | k_is | k_exc | rfl | kernel_rfl); (case c_whole => first | k_is | k_exc | rfl | kernel_rfl); (case k_whole => first | k_is | k_exc | rfl | kernel_rfl); (case a_heights => first | k_is | k_exc | rfl | kernel_rfl); (case l_heights => first | k_is | k_exc | rfl | kernel_rfl); (case c_heights => first | k_is | k_exc | rfl | kernel_rfl); (case k_heights => first | k_is | k_exc | rfl | kernel_rfl); (case a_reach => first | k_is | k_exc | rfl | kernel_rfl); (case l_reach => first | k_is | k_exc | rfl | kernel_rfl); (case c_reach => first | k_is | k_exc | rfl | kernel_rfl); (case k_reach => first | k_is | k_exc | rfl | kernel_rfl); (case a_ring => first | k_is | k_exc | rfl | kernel_rfl); (case l_ring => first | k_is | k_exc | rfl | kernel_rfl); (case c_ring => first | k_is | k_exc | rfl | kernel_rfl); (case k_ring => first | k_is | k_exc | rfl | kernel_rfl); (case a_drawn => first | k_is | k_exc | rfl | kernel_rfl); (case l_drawn => first | k_is | k_exc | rfl | kernel_rfl); (case c_drawn => first | k_is | k_exc | rfl | kernel_rfl); (case k_drawn => first | k_is | k_exc | rfl | kernel_rfl); (case a_add => first | k_is | k_exc | rfl | kernel_rfl); (case l_add => first | k_is | k_exc | rfl | kernel_rfl); (case c_add => first | k_is | k_exc | rfl | kernel_rfl); (case k_add => first | k_is | k_exc | rfl | kernel_rfl); (case a_back => first | k_is | k_exc | rfl | kernel_rfl); (case l_back => first | k_is | k_exc | rfl | kernel_rfl); (case c_back => first | k_is | k_exc | rfl | kernel_rfl); (case k_back => first | k_is | k_exc | rfl | kernel_rfl); (case a_settle => first | k_is | k_exc | rfl | kernel_rfl); (case l_settle => first | k_is | k_exc | rfl | kernel_rfl); (case c_settle => first | k_is | k_exc | rfl | kernel_rfl); (case k_settle => first | k_is | k_exc | rfl | kernel_rfl); (case a_look => first | k_is | k_exc | rfl | kernel_rfl); (case l_look => first | k_is | k_exc | rfl | kernel_rfl); (case c_look => first | k_is | k_exc | rfl | kernel_rfl); (case k_look => first | k_is | k_exc | rfl | kernel_rfl); (case a_deed => first | k_is | k_exc | rfl | kernel_rfl); (case l_deed => first | k_is | k_exc | rfl | kernel_rfl); (case c_deed => first | k_is | k_exc | rfl | kernel_rfl); (case k_deed => first | k_is | k_exc | rfl | kernel_rfl); (case a_counted => first | k_is | k_exc | rfl | kernel_rfl); (case l_counted => first | k_is | k_exc | rfl | kernel_rfl); (case c_counted => first | k_is | k_exc | rfl | kernel_rfl); (case k_counted => first | k_is | k_exc | rfl | kernel_rfl); (case a_end => first | k_is | k_exc | rfl | kernel_rfl); (case l_end => first | k_is | k_exc | rfl | kernel_rfl); (case c_end => first | k_is | k_exc | rfl | kernel_rfl); (case k_end => first | k_is | k_exc | rfl | kernel_rfl); (case a_law => first | k_is | k_exc | rfl | kernel_rfl); (case l_law => first | k_is | k_exc | rfl | kernel_rfl); (case c_law => first | k_is | k_exc | rfl | kernel_rfl); (case k_law => first | k_is | k_exc | rfl | kernel_rfl); (case m_len => first | k_is | k_exc | rfl | kernel_rfl); (case m_int => first | k_is | k_exc | rfl | kernel_rfl); (case m_abs => first | k_is | k_exc | rfl | kernel_rfl); (case m_max => first | k_is | k_exc | rfl | kernel_rfl); (case m_isinstance => first | k_is | k_exc | rfl | kernel_rfl); (case m_range => first | k_is | k_exc | rfl | kernel_rfl); (case m_bool => first | k_is | k_exc | rfl | kernel_rfl); (case m_list => first | k_is | k_exc | rfl | kernel_rfl); (case m_sorted => first | k_is | k_exc | rfl | kernel_rfl); (case m_dict => first | k_is | k_exc | rfl | kernel_rfl); (case n_Ways => first | k_is | k_exc | rfl | kernel_rfl); (case a_Ways_init => first | k_is | k_exc | rfl | kernel_rfl); (case i_Ways_init => first | k_is | k_exc | rfl | kernel_rfl); (case l_Ways_init => first | k_is | k_exc | rfl | kernel_rfl); (case c_Ways_init => first | k_is | k_exc | rfl | kernel_rfl); (case k_Ways_init => first | k_is | k_exc | rfl | kernel_rfl); (case a_Ways_limit => first | k_is | k_exc | rfl | kernel_rfl); (case i_Ways_limit => first | k_is | k_exc | rfl | kernel_rfl); (case l_Ways_limit => first | k_is | k_exc | rfl | kernel_rfl); (case c_Ways_limit => first | k_is | k_exc | rfl | kernel_rfl); (case k_Ways_limit => first | k_is | k_exc | rfl | kernel_rfl); (case a_Ways_settle => first | k_is | k_exc | rfl | kernel_rfl); (case i_Ways_settle => first | k_is | k_exc | rfl | kernel_rfl); (case l_Ways_settle => first | k_is | k_exc | rfl | kernel_rfl); (case c_Ways_settle => first | k_is | k_exc | rfl | kernel_rfl); (case k_Ways_settle => first | k_is | k_exc | rfl | kernel_rfl); (case a_Ways_heights => first | k_is | k_exc | rfl | kernel_rfl); (case i_Ways_heights => first | k_is | k_exc | rfl | kernel_rfl); (case l_Ways_heights => first | k_is | k_exc | rfl | kernel_rfl); (case c_Ways_heights => first | k_is | k_exc | rfl | kernel_rfl); (case k_Ways_heights => first | k_is | k_exc | rfl | kernel_rfl); (case a_Ways_limits => first | k_is | k_exc | rfl | kernel_rfl); (case i_Ways_limits => first | k_is | k_exc | rfl | kernel_rfl); (case l_Ways_limits => first | k_is | k_exc | rfl | kernel_rfl); (case c_Ways_limits => first | k_is | k_exc | rfl | kernel_rfl); (case k_Ways_limits => first | k_is | k_exc | rfl | kernel_rfl); (case a_Ways_back => first | k_is | k_exc | rfl | kernel_rfl); (case i_Ways_back => first | k_is | k_exc | rfl | kernel_rfl); (case l_Ways_back => first | k_is | k_exc | rfl | kernel_rfl); (case c_Ways_back => first | k_is | k_exc | rfl | kernel_rfl); (case k_Ways_back => first | k_is | k_exc | rfl | kernel_rfl); (case a_Ways_fall => first | k_is | k_exc | rfl | kernel_rfl); (case i_Ways_fall => first | k_is | k_exc | rfl | kernel_rfl); (case l_Ways_fall => first | k_is | k_exc | rfl | kernel_rfl); (case c_Ways_fall => first | k_is | k_exc | rfl | kernel_rfl); (case k_Ways_fall => first | k_is | k_exc | rfl | kernel_rfl); (case a_Ways_pulls => first | k_is | k_exc | rfl | kernel_rfl); (case i_Ways_pulls => first | k_is | k_exc | rfl | kernel_rfl); (case l_Ways_pulls => first | k_is | k_exc | rfl | kernel_rfl); (case c_Ways_pulls => first | k_is | k_exc | rfl | kernel_rfl); (case k_Ways_pulls => first | k_is | k_exc | rfl | kernel_rfl); (case a_Ways_ring => first | k_is | k_exc | rfl | kernel_rfl); (case i_Ways_ring => first | k_is | k_exc | rfl | kernel_rfl); (case l_Ways_ring => first | k_is | k_exc | rfl | kernel_rfl); (case c_Ways_ring => first | k_is | k_exc | rfl | kernel_rfl); (case k_Ways_ring => first | k_is | k_exc | rfl | kernel_rfl); (case pg_Ways => first | k_is | k_exc | rfl | kernel_rfl); (case hd_Ways => first | k_is | k_exc | rfl | kernel_rfl); (case po_Ways => first | k_is | k_exc | rfl | kernel_rfl); (case sa_Ways => first | k_is | k_exc | rfl | kernel_rfl); (case mk_Ways => first | k_is | k_exc | rfl | kernel_rfl); (case kc_Ways => first | k_is | k_exc | rfl | kernel_rfl); (case nf_Ways__limits => first | k_is | k_exc | rfl | kernel_rfl); (case nf_Ways__settled => first | k_is | k_exc | rfl | kernel_rfl); (case nf_Ways__heights => first | k_is | k_exc | rfl | kernel_rfl); (case nf_Ways__leaning => first | k_is | k_exc | rfl | kernel_rfl); (case mgheappop => first | k_is | k_exc | rfl | kernel_rfl); (case mgheappush => first | k_is | k_exc | rfl | kernel_rfl)
#print axioms PySem.Challenge.cw_papersat_k45_whole_ways_with_backs_holds
