import PyProof.Rows.All
import Wide.All
import OpenK.AllK
import Wide.FinOn
import HandS.ForMost
import HandS.ForExc
import HandS.IsInst
import HandS.Gcd
import HandS.Wide
import HandS.WideBits
import HandS.Defaults
import HandS.ExcIs
import HandS.Small
import HandS.Flow
import HandS.Evl
import HandS.DictEq
import HandS.Walk
import HandS.TupLe
import HandS.More
import HandS.ForDict
import HandS.TupAny
import KE.KDictPairs
import KE.KEqDict
import HandS.OwnIter
import HandS.IterNext
import HandS.DictComp
import HandS.RevRange
import HandS.ExcInit
import HandS.ExcField
import HandS.FStr
import HandS.StrMore
import HandS.Codes
import KE.KExcIs
import KE.SortKeyHeap
import KE.SortData
import HandS.SortKw
import HandS.EndTab
import HandS.Nested
import KE.KDictZip
import PyProof.TupleOfSeq
import HandS.ExcCtx
import HandS.Hot
import HandS.HotCalls
import HandS.TryMany
import HandS.ExcOwn
import HandS.Star
import HandS.SetFor
import KE.GoesRaise
import HandS.SetKeys
import PySem.Challenge.RW_papersat_k22_propagation_closes
set_option Elab.async false
set_option linter.all false
set_option maxRecDepth 100000
set_option maxHeartbeats 4000000
/-! ### short words for readings -/
namespace Z
open PySem PySem.Spec PyProof.Rows L2
variable {σ σ' : L2.St} {H : Hp} {Q : VK} {D : Ends} {ta tb te : TE} {t u : TS} {tt tu : TT} {g : TG} {v x y : V} {i : Nat} {K : PySem.W.Frag} {p : Addr}
theorem w_var (h : σ[i]? = some (some v)) (q : Q v H) : tVar i σ H Q := ⟨v, h, q⟩
theorem w_c (q : Q v H) : tC v σ H Q := q
theorem w_op {r : R2} (h : ta σ H fun x H1 => tb σ H1 fun y H2 => r x y H2 Q) : tOp r ta tb σ H Q := h
theorem w_un {r : V → Hp → VK → Prop} (h : ta σ H fun x H1 => r x H1 Q) : tUn r ta σ H Q := h
theorem w_rI0 {f : Int → Int → V} {a b : Int} (q : Q (f a b) H) : rI0 f (.int a) (.int b) H Q := ⟨a, b, rfl, rfl, q⟩
theorem w_rI {C : Int → Int → Prop} {f : Int → Int → V} {a b : Int} (c : C a b) (q : Q (f a b) H) : rI C f (.int a) (.int b) H Q := ⟨a, b, rfl, rfl, c, q⟩
theorem w_rU {f : Int → V} {a : Int} (q : Q (f a) H) : rU f (.int a) H Q := ⟨a, rfl, q⟩
theorem w_rEq (c : scal x y = true) (q : Q (.bl (decide (x = y))) H) : rEq x y H Q := ⟨c, q⟩
theorem w_rNe (c : scal x y = true) (q : Q (.bl (!decide (x = y))) H) : rNe x y H Q := ⟨c, q⟩
theorem w_rEqI {a b : Int} (q : Q (.bl (decide (a = b))) H) : rEq (.int a) (.int b) H Q := ⟨rfl, by
  rw [show decide (V.int a = V.int b) = decide (a = b) by simp]; exact q⟩
theorem w_rNeI {a b : Int} (q : Q (.bl (!decide (a = b))) H) : rNe (.int a) (.int b) H Q := ⟨rfl, by
  rw [show decide (V.int a = V.int b) = decide (a = b) by simp]; exact q⟩
theorem w_ixL {xs : List V} {k : Int} (h : SqL K H p xs) (a : atI xs k = some v) (q : Q v H) : rIxL K (.ref p) (.int k) H Q := ⟨p, xs, k, v, rfl, rfl, h, a, q⟩
theorem w_ixT {xs : List V} {k : Int} (h : SqT K H p xs) (a : atI xs k = some v) (q : Q v H) : rIxT K (.ref p) (.int k) H Q := ⟨p, xs, k, v, rfl, rfl, h, a, q⟩
theorem w_start (e : σ = σ') (h : t D σ' H) : t D σ H := by rw [e]; exact h
theorem w_seq (h : t { D with nx := u D } σ H) : tSeq t u D σ H := h
theorem w_next (h : D.nx σ H) : tNext D σ H := h
theorem w_break (h : D.bk σ H) : tBreak D σ H := h
theorem w_cont (h : D.ct σ H) : tCont D σ H := h
theorem w_drop (h : te σ H fun _ H1 => D.nx σ H1) : tDrop te D σ H := h
theorem w_ret (h : te σ H D.rt) : tRet te D σ H := h
theorem w_asg (h : te σ H fun x H1 => g x σ H1 D.nx) : tAsg te g D σ H := h
theorem w_gname {R : L2.St → Hp → Prop} (e : σ.set i (some v) = σ') (h : R σ' H) : gName i v σ H R := by rw [← e] at h; exact h
theorem w_ifs (h : tt σ H fun b H1 => if b = true then t D σ H1 else u D σ H1) : tIfS tt t u D σ H := h
theorem w_test {R : Bool → Hp → Prop} (h : te σ H fun x H1 => ∃ k, x = .bl k ∧ R k H1) : tTest te σ H R := h
theorem w_B {R : Bool → Hp → Prop} (h : te σ H fun x H1 => ∃ k, x = .bl k ∧ R k H1) : tB te σ H R := h
theorem w_bl {k : Bool} {R : Bool → Prop} (h : R k) : ∃ c, V.bl k = V.bl c ∧ R c := ⟨k, rfl, h⟩
theorem w_tand {R : Bool → Hp → Prop} (h : tt σ H fun c H1 => if c = true then tu σ H1 R else R false H1) : tAnd tt tu σ H R := h
theorem w_tor {R : Bool → Hp → Prop} (h : tt σ H fun c H1 => if c = true then R true H1 else tu σ H1 R) : tOr tt tu σ H R := h
theorem w_tnot {R : Bool → Hp → Prop} (h : tt σ H fun c H1 => R (!c) H1) : tNot tt σ H R := h
theorem w_andV (h : ta σ H fun x H1 => ∃ c, x = .bl c ∧ if c = true then tb σ H1 Q else Q (.bl false) H1) : tAndV ta tb σ H Q := h
theorem w_orV (h : ta σ H fun x H1 => ∃ c, x = .bl c ∧ if c = true then Q (.bl true) H1 else tb σ H1 Q) : tOrV ta tb σ H Q := h
theorem w_notV (h : ta σ H fun x H1 => ∃ c, x = .bl c ∧ Q (.bl (!c)) H1) : tNotV ta σ H Q := h
theorem w_ifV (h : tt σ H fun c H1 => if c = true then ta σ H1 Q else tb σ H1 Q) : tIf tt ta tb σ H Q := h
theorem w_nil {R : List V → Hp → Prop} (h : R [] H) : tNil σ H R := h
theorem w_cons {tr : TA} {R : List V → Hp → Prop} (h : ta σ H fun x H1 => tr σ H1 fun xs H2 => R (x :: xs) H2) : tCons ta tr σ H R := h
theorem w_cb {r : List V → Hp → VK → Prop} {tl : TA} (h : tl σ H fun vs H1 => r vs H1 Q) : tCB r tl σ H Q := h
theorem w_call {sp : Sp} {dvs : List V} {E : XK} {tl : TA} (h : tl σ H fun vs H1 => sp (vs ++ dvs) H1 Q E) : tCall sp dvs E tl σ H Q := h
theorem w_call0 {sp : Sp} {E : XK} {tl : TA} (h : tl σ H fun vs H1 => sp vs H1 Q E) : tCall sp [] E tl σ H Q := by
  unfold tCall
  simp only [List.append_nil]
  exact h
theorem w_tup {tl : TA} (h : tl σ H fun xs H1 => xs.length ≤ sizeLine ∧ ∀ p, H1 p = none → Q (.ref p) (upd H1 p (.tup xs))) : tTup tl σ H Q := h
theorem w_lst {tl : TA} (h : tl σ H fun xs H1 => xs.length ≤ sizeLine ∧ ∀ p, H1 p = none → Q (.ref p) (upd H1 p (.lst xs))) : tLst tl σ H Q := h
def par2 (a b : Nat) (vs : List V) (σ : L2.St) (H : Hp) (R : L2.St → Hp → Prop) : Prop := ∃ v w, vs = [v, w] ∧ R ((σ.set a (some v)).set b (some w)) H
theorem w_par {a b : Nat} {tl : TA} (h : tl σ H fun vs H1 => par2 a b vs σ H1 D.nx) : tPar a b tl D σ H := h
theorem w_par2 {a b : Nat} {v w : V} {R : L2.St → Hp → Prop} (e : (σ.set a (some v)).set b (some w) = σ') (h : R σ' H) : par2 a b [v, w] σ H R := ⟨v, w, rfl, by rw [e]; exact h⟩
theorem w_gtup {n : Nat} {gs : TGs} {xs : List V} {R : L2.St → Hp → Prop} (h : SqT K H p xs) (l : xs.length = n) (q : gs xs σ H R) : gTup K n gs (.ref p) σ H R := ⟨p, xs, rfl, h, l, q⟩
theorem w_gcons {gs : TGs} {vs : List V} {R : L2.St → Hp → Prop} (h : g v σ H fun σ' H' => gs vs σ' H' R) : gCons g gs (v :: vs) σ H R := ⟨v, vs, rfl, h⟩
theorem w_gnil {R : L2.St → Hp → Prop} (h : R σ H) : gNil [] σ H R := ⟨rfl, h⟩
theorem w_gsub {to ti : TE} {ts : TSet} {R : L2.St → Hp → Prop} (h : to σ H fun o H1 => ti σ H1 fun i H2 => ts o i v H2 fun H3 => R σ H3) : gSub to ti ts v σ H R := h
theorem w_setL {xs : List V} {k : Int} {j : Nat} {R : Hp → Prop} (h : H p = some (.lst xs)) (e : ixN xs.length k = some j) (q : R (upd H p (.lst (xs.set j v)))) : rSetL (.ref p) (.int k) v H R := ⟨p, xs, k, j, rfl, rfl, h, e, q⟩
theorem w_rng1 {tl : TA} {R : It → Hp → Prop} (h : tl σ H fun vs H1 => ∃ j : Int, vs = [.int j] ∧ -(2 ^ 62) ≤ j ∧ j < 2 ^ 62 ∧ R (Itr 0 j.toNat) H1) : iRng1 tl σ H R := h
theorem w_rng1' {j : Int} {R : It → Prop} (h1 : -(2 ^ 62) ≤ j) (h2 : j < 2 ^ 62) (h : R (Itr 0 j.toNat)) : ∃ k : Int, [V.int j] = [.int k] ∧ -(2 ^ 62) ≤ k ∧ k < 2 ^ 62 ∧ R (Itr 0 k.toNat) := ⟨j, rfl, h1, h2, h⟩
theorem w_for {wi : TI} {tb' : TS} (h : wi σ H fun J H1 => ∃ W : Nat → Nat → L2.St → Hp → Prop, (∃ m, W 0 m σ H1) ∧ ∀ i m σ H, W i m σ H →
  (J.stop i H ∧ D.nx σ H) ∨ (J.go i H ∧ ∃ N : L2.St → Hp → Prop, (∀ σ' H', N σ' H' → ∃ m', m' < m ∧ W (i + 1) m' σ' H') ∧ ∀ x H', J.yld i H x H' → g x σ H' fun σ2 H2 => tb' { D with nx := N, ct := N, bk := D.nx } σ2 H2)) : tFor wi g tb' D σ H := h
theorem w_bits (h : te σ H fun x H1 => ∃ i, x = .int i ∧ Q (.int (Builtin.Int.intBits i : Nat)) H1) : tBits te σ H Q := h
theorem w_ex1 {a : Int} {R : Int → Prop} (h : R a) : ∃ i, V.int a = V.int i ∧ R i := ⟨a, rfl, h⟩
theorem w_exl {xs : List V} {R : List V → Prop} (h : R xs) : ∃ ys, xs = ys ∧ R ys := ⟨xs, rfl, h⟩
theorem sz4 {n : Nat} (h : n ≤ 1000) : n ≤ sizeLine := Nat.le_trans h (by decide)
theorem w_ixH {xs : List V} {k : Int} (h : H p = some (.lst xs)) (a : atI xs k = some v) (q : Q v H) : rIxL K (.ref p) (.int k) H Q := ⟨p, xs, k, v, rfl, rfl, .inl (.inl h), a, q⟩
theorem w_ixTH {xs : List V} {k : Int} (h : H p = some (.tup xs)) (a : atI xs k = some v) (q : Q v H) : rIxT K (.ref p) (.int k) H Q := ⟨p, xs, k, v, rfl, rfl, .inl (.inl h), a, q⟩
theorem w_gtupH {n : Nat} {gs : TGs} {xs : List V} {R : L2.St → Hp → Prop} (h : H p = some (.tup xs)) (l : xs.length = n) (q : gs xs σ H R) : gTup K n gs (.ref p) σ H R := ⟨p, xs, rfl, .inl (.inl h), l, q⟩
theorem w_setLu {xs ys : List V} {k : Int} {j : Nat} {R : Hp → Prop} {H0 : Hp} (e : ixN xs.length k = some j) (e2 : xs.set j v = ys) (q : R (upd H0 p (.lst ys))) : rSetL (.ref p) (.int k) v (upd H0 p (.lst xs)) R := ⟨p, xs, k, j, rfl, rfl, upd_same, e, by rw [upd_upd, e2]; exact q⟩
theorem w_setLh {xs ys : List V} {k : Int} {j : Nat} {R : Hp → Prop} (h : H p = some (.lst xs)) (e : ixN xs.length k = some j) (e2 : xs.set j v = ys) (q : R (upd H p (.lst ys))) : rSetL (.ref p) (.int k) v H R := ⟨p, xs, k, j, rfl, rfl, h, e, by rw [e2]; exact q⟩
theorem w_lenL {xs : List V} {R : V → Prop} (h : SqL K H p xs) (q : R (.int xs.length)) : ∃ a ys, [V.ref p] = [.ref a] ∧ (SqL K H a ys ∨ SqT K H a ys) ∧ R (.int ys.length) := ⟨p, xs, rfl, .inl h, q⟩
theorem w_lenT {xs : List V} {R : V → Prop} (h : SqT K H p xs) (q : R (.int xs.length)) : ∃ a ys, [V.ref p] = [.ref a] ∧ (SqL K H a ys ∨ SqT K H a ys) ∧ R (.int ys.length) := ⟨p, xs, rfl, .inr h, q⟩
theorem upd_skip {a b : Addr} {o : HO} {u : Option HO} (h : a ≠ b) (e : H a = u) : (upd H b o) a = u := by rw [upd_ne h]; exact e
section
variable {c A B : Prop} [Decidable c]
theorem w_ite (h1 : c → A) (h2 : ¬ c → B) : if decide c = true then A else B := by
  by_cases h : c
  · rw [if_pos (decide_eq_true h)]; exact h1 h
  · rw [if_neg (fun z => h (of_decide_eq_true z))]; exact h2 h
theorem w_iteN (h1 : ¬ c → A) (h2 : c → B) : if (!decide c) = true then A else B := by
  by_cases h : c
  · rw [decide_eq_true h]; exact h2 h
  · rw [decide_eq_false h]; exact h1 h
theorem w_iteT (h : c) (q : A) : if decide c = true then A else B := by rw [if_pos (decide_eq_true h)]; exact q
theorem w_iteF (h : ¬ c) (q : B) : if decide c = true then A else B := by rw [if_neg (fun z => h (of_decide_eq_true z))]; exact q
theorem w_iteNT (h : ¬ c) (q : A) : if (!decide c) = true then A else B := by rw [decide_eq_false h]; exact q
theorem w_iteNF (h : c) (q : B) : if (!decide c) = true then A else B := by rw [decide_eq_true h]; exact q
theorem w_iteb {k : Bool} (h1 : k = true → A) (h2 : k = false → B) : if k = true then A else B := by
  cases k with
  | true => exact h1 rfl
  | false => exact h2 rfl
theorem w_ibT (q : A) : if true = true then A else B := q
theorem w_ibF (q : B) : if false = true then A else B := q
theorem w_ibNT (q : A) : if (!false) = true then A else B := q
theorem w_ibNF (q : B) : if (!true) = true then A else B := q
end
theorem upd_fresh {a b : Addr} {o : HO} (h : H a = none) (h' : H b = some o) {u : HO} (hu : upd H b u a = none) : True := trivial
theorem fresh_of {a b : Addr} {u : HO} (h : (upd H b u) a = none) : a ≠ b ∧ H a = none := by
  by_cases e : a = b
  · subst e; rw [upd_same] at h; cases h
  · rw [upd_ne e] at h; exact ⟨e, h⟩
theorem pick {ns : List Int} {k : Int} (h0 : 0 ≤ k) (h : k < ns.length) : ∃ z, atI (ns.map V.int) k = some (.int z) ∧ z ∈ ns := by
  obtain ⟨j, rfl⟩ := Int.eq_ofNat_of_zero_le h0
  have hj : j < ns.length := by omega
  refine ⟨ns[j], atI_nat (j := j) ?_, List.getElem_mem hj⟩
  rw [List.getElem?_map, List.getElem?_eq_getElem hj]
  rfl
theorem w_isi {c x : V} {ty u : Value} {b : Bool} (hc : ClsV c u) (ht : TyX K H x ty) (e : PySem.W.kitOne K ty u = some b) (q : Q (.bl b) H) : rIsi K [x, c] H Q := ⟨x, c, ty, u, b, rfl, hc, ht, e, q⟩
theorem w_isi_ii {a : Int} (q : Q (.bl true) H) : rIsi K [.int a, .ty "int"] H Q := w_isi (.ty _) (.base (.int _)) (kit_ty (by decide +kernel)) q
theorem w_isi_ib {a : Int} (q : Q (.bl false) H) : rIsi K [.int a, .ty "bool"] H Q := w_isi (.ty _) (.base (.int _)) (kit_ty (by decide +kernel)) q
theorem w_isi_bb {a : Bool} (q : Q (.bl true) H) : rIsi K [.bl a, .ty "bool"] H Q := w_isi (.ty _) (.base (.bl _)) (kit_ty (by decide +kernel)) q
theorem w_isi_bi {a : Bool} (q : Q (.bl true) H) : rIsi K [.bl a, .ty "int"] H Q := w_isi (.ty _) (.base (.bl _)) (kit_ty (by decide +kernel)) q
theorem w_isi_ss {a : Str} (q : Q (.bl true) H) : rIsi K [.str a, .ty "str"] H Q := w_isi (.ty _) (.base (.str _)) (kit_ty (by decide +kernel)) q
theorem w_isi_is {a : Int} (q : Q (.bl false) H) : rIsi K [.int a, .ty "str"] H Q := w_isi (.ty _) (.base (.int _)) (kit_ty (by decide +kernel)) q
theorem w_isi_tt {xs : List V} (h : H p = some (.tup xs)) (q : Q (.bl true) H) : rIsi K [.ref p, .ty "tuple"] H Q := w_isi (.ty _) (.base (.tup h)) (kit_ty (by decide +kernel)) q
theorem w_isi_tl {xs : List V} (h : H p = some (.tup xs)) (q : Q (.bl false) H) : rIsi K [.ref p, .ty "list"] H Q := w_isi (.ty _) (.base (.tup h)) (kit_ty (by decide +kernel)) q
theorem w_isi_ll {xs : List V} (h : H p = some (.lst xs)) (q : Q (.bl true) H) : rIsi K [.ref p, .ty "list"] H Q := w_isi (.ty _) (.base (.lst h)) (kit_ty (by decide +kernel)) q
theorem w_isi_lt {xs : List V} (h : H p = some (.lst xs)) (q : Q (.bl false) H) : rIsi K [.ref p, .ty "tuple"] H Q := w_isi (.ty _) (.base (.lst h)) (kit_ty (by decide +kernel)) q
theorem w_isi_ti {xs : List V} (h : H p = some (.tup xs)) (q : Q (.bl false) H) : rIsi K [.ref p, .ty "int"] H Q := w_isi (.ty _) (.base (.tup h)) (kit_ty (by decide +kernel)) q
theorem w_isi_tb {xs : List V} (h : H p = some (.tup xs)) (q : Q (.bl false) H) : rIsi K [.ref p, .ty "bool"] H Q := w_isi (.ty _) (.base (.tup h)) (kit_ty (by decide +kernel)) q
theorem w_isi_ts {xs : List V} (h : H p = some (.tup xs)) (q : Q (.bl false) H) : rIsi K [.ref p, .ty "str"] H Q := w_isi (.ty _) (.base (.tup h)) (kit_ty (by decide +kernel)) q
theorem w_isi_li {xs : List V} (h : H p = some (.lst xs)) (q : Q (.bl false) H) : rIsi K [.ref p, .ty "int"] H Q := w_isi (.ty _) (.base (.lst h)) (kit_ty (by decide +kernel)) q
theorem w_isi_lb {xs : List V} (h : H p = some (.lst xs)) (q : Q (.bl false) H) : rIsi K [.ref p, .ty "bool"] H Q := w_isi (.ty _) (.base (.lst h)) (kit_ty (by decide +kernel)) q
theorem w_isi_ls {xs : List V} (h : H p = some (.lst xs)) (q : Q (.bl false) H) : rIsi K [.ref p, .ty "str"] H Q := w_isi (.ty _) (.base (.lst h)) (kit_ty (by decide +kernel)) q
theorem w_gcd {a b : Int} (q : Q (.int (Nat.gcd a.natAbs b.natAbs : Nat)) H) : rGcd [.int a, .int b] H Q := ⟨a, b, rfl, q⟩
theorem w_callN {n m : Nat} {sp : Sp} {gV : List V → List V → List V} {E : XK} {t1 t2 : TA} (h : t1 σ H fun vs H1 => t2 σ H1 fun zs H2 => vs.length = n ∧ zs.length = m ∧ sp (gV vs zs) H2 Q E) : tCallN n m sp gV E t1 t2 σ H Q := h
theorem w_callS {sp : Sp} {E : L2.St → XK} {t1 : TA} (h : t1 σ H fun vs H1 => sp vs H1 Q (E σ)) : tCallS sp E t1 σ H Q := h
theorem same_of {H H' : Hp} {p : Addr} {o : HO} (s : Same H H') (n : H' p = none) : Same H (upd H' p o) := fun b x e => by
  rw [upd_ne (ne_of_none (s b x e) n)]
  exact s b x e
theorem same_mut {H H' : Hp} {p : Addr} {o : HO} (s : Same H H') (n : H p = none) : Same H (upd H' p o) := fun b x e => by
  rw [upd_ne (ne_of_none e n)]
  exact s b x e
theorem w_dnew (h : ∀ d, H d = none → Q (.ref d) (upd H d (.dK []))) : tDNewK σ H Q := h
theorem w_dput {td ty tv : TE} (h : tv σ H fun v H1 => td σ H1 fun x H2 => ty σ H2 fun y H3 => ∃ a H4, x = .ref a ∧ DPut H3 a y v H4 ∧ D.nx σ H4) : sDPut td ty tv D σ H := h
theorem w_din {ty td : TE} (h : ty σ H fun y H1 => td σ H1 fun x H2 => ∃ a o, x = .ref a ∧ DGet H2 a y o ∧ Q (.bl o.isSome) H2) : tDIn ty td σ H Q := h
theorem w_dnin {ty td : TE} (h : ty σ H fun y H1 => td σ H1 fun x H2 => ∃ a o, x = .ref a ∧ DGet H2 a y o ∧ Q (.bl (!o.isSome)) H2) : tDNotIn ty td σ H Q := h
theorem w_iTup {tl : TE} {R : It → Hp → Prop} (h : tl σ H fun x H1 => ∃ a, x = .ref a ∧ (∃ xs, SqT K H1 a xs) ∧ R (Itt K a) H1) : iTup K tl σ H R := h
theorem w_iList {tl : TE} {R : It → Hp → Prop} (h : tl σ H fun x H1 => ∃ a, x = .ref a ∧ (∃ xs, SqL K H1 a xs) ∧ R (Itl K a) H1) : iList K tl σ H R := h
theorem w_lc {wi : TI} {ivs : List Nat} (h : wi σ H fun J H1 => ∀ Dl, H1 Dl = none → ∃ W : Nat → Nat → Hp → Prop, (∃ m, W 0 m (upd H1 Dl (.lst []))) ∧ ∀ i m H, W i m H →
  (J.stop i H ∧ Q (.ref Dl) H) ∨ (J.go i H ∧ ∃ Nx : Hp → Prop, (∀ H', Nx H' → ∃ m', m' < m ∧ W (i + 1) m' H') ∧ ∀ x H', J.yld i H x H' → g x (wipe σ ivs) H' fun σ2 H2 => wipe σ2 ivs = wipe σ ivs ∧ tt σ2 H2 fun b H3 =>
    if b = true then te σ2 H3 fun y H4 => ∃ acc, H4 Dl = some (.lst acc) ∧ acc.length < sizeLine ∧ Nx (upd H4 Dl (.lst (acc ++ [y]))) else Nx H3)) : tLc wi g tt te ivs σ H Q := h
theorem w_yes {R : Bool → Hp → Prop} (h : R true H) : tYes σ H R := h
theorem w_opin {neg : Bool} {xs : List V} (hs : SqL K H p xs ∨ SqT K H p xs) (hx : flatV x = true) (ha : xs.all flatV = true) (q : Q (.bl (if neg then !inV x xs else inV x xs)) H) : rIn K neg x (.ref p) H Q := ⟨p, xs, rfl, hs, hx, ha, q⟩
theorem w_isN (q : Q (.bl (decide (x = .non))) H) : (V.non = V.non ∧ Q (.bl (decide (x = .non))) H) := ⟨rfl, q⟩
theorem w_bm {T : String} {r : V → List V → Hp → VK → Prop} {to : TE} {tl : TA} (h : to σ H fun x H1 => tyV K T x H1 ∧ tl σ H1 fun xs H2 => r x xs H2 Q) : tBM K T r to tl σ H Q := h
theorem w_tyL {xs : List V} {R : Prop} (h : H p = some (.lst xs)) (q : R) : tyV K "list" (.ref p) H ∧ R := ⟨Or.inl ⟨rfl, xs, .inl (.inl h)⟩, q⟩
theorem w_app {xs : List V} (h : H p = some (.lst xs)) (l : xs.length < 100000) (q : Q .non (upd H p (.lst (xs ++ [v])))) : rAppend (.ref p) [v] H Q := ⟨p, xs, v, rfl, rfl, h, Nat.lt_of_lt_of_le l (by decide), q⟩
theorem w_bm0 {T : String} {r : V → List V → Hp → VK → Prop} {to : TE} (h : to σ H fun x H1 => tyV K T x H1 ∧ r x [] H1 Q) : tBM0 K T r to σ H Q := h
theorem w_rev {xs : List V} (h : H p = some (.lst xs)) (q : Q .non (upd H p (.lst xs.reverse))) : rReverse (.ref p) [] H Q := ⟨p, xs, rfl, rfl, h, q⟩
/-- pools -/
def IsPool (o : HO) : Prop := ∃ (c k : Int) (b : Bool) (s : Int), o = .lst [.int c, .int k, .bl b, .int s]
theorem upd_of {a b : Addr} {o : HO} (h : H b = none) {u : HO} (e : H a = some u) : (upd H b o) a = some u := by rw [upd_ne (ne_of_none e h)]; exact e
end Z
local macro_rules | `(tactic| walk_at "sz") => `(tactic| first | omega | (split <;> omega) | ((repeat' split) <;> omega) | (simp only [List.length_map]; (repeat' split) <;> omega))
local macro_rules | `(tactic| walk_at "hp") => `(tactic| first
  | assumption
  | exact L2.upd_same
  | ((refine' Z.upd_of ?h1 ?h2); (case h1 => assumption); (case h2 => walk_at "hp"))
  | ((refine' Z.upd_skip ?h1 ?h2); (case h1 => first | assumption | (apply Ne.symm; assumption)); (case h2 => walk_at "hp")))
local macro_rules | `(tactic| walk_at "cond") => `(tactic| first
  | exact L2.wide_mul (a := 200) (b := 200) (by omega) (by omega) (by decide) (by decide) (by decide)
  | exact L2.wide_div (b := 200) (by omega) (by omega) (by decide) (by decide)
  | exact ⟨by omega, by omega⟩
  | omega
  | exact (show (0 : Int) < _ by omega)
  | exact Or.inl ⟨by omega, by omega⟩
  | exact Or.inr ⟨by omega, by omega⟩
  | exact ⟨by omega, by omega, by decide⟩)
local macro_rules | `(tactic| walk_at "same") => `(tactic| first
  | assumption
  | exact L2.Same.refl _
  | (refine Z.same_of ?_ (by assumption); walk_at "same")
  | (refine Z.same_mut ?_ (by assumption); walk_at "same")
  | exact L2.Same.trans (by assumption) (by walk_at "same"))
local macro_rules | `(tactic| walk_at "seq") => `(tactic| first
  | assumption
  | (refine Or.inl (Or.inl ?_); walk_at "hp")
  | ((refine' L2.Same.seq ?se ?sh); (case sh => assumption); (case se => walk_at "same"))
  | ((refine' Evl.ex_t ?se ?sh); (case sh => assumption); (case se => walk_at "same")))
local macro_rules | `(tactic| walk_at "ar") => `(tactic| first
  | omega
  | (simp only [List.length_map, List.length_cons, List.length_nil]; omega))
local macro_rules | `(tactic| walk_at "w1") => `(tactic| first
  | with_reducible refine Z.w_seq ?_
  | with_reducible refine Z.w_asg ?_
  | with_reducible refine Z.w_op ?_
  | ((with_reducible refine' Z.w_var ?wv ?_); case wv => exact rfl)
  | with_reducible refine Z.w_c ?_
  | with_reducible refine Z.w_rI0 ?_
  | ((with_reducible refine' Z.w_gname ?we ?_); case we => (simp only [List.set_cons_zero, List.set_cons_succ] <;> rfl))
  | with_reducible refine Z.w_cons ?_
  | with_reducible refine Z.w_nil ?_
  | with_reducible refine Z.w_ifs ?_
  | with_reducible refine Z.w_test ?_
  | with_reducible refine Z.w_B ?_
  | with_reducible refine Z.w_bl ?_
  | with_reducible refine Z.w_rEqI ?_
  | with_reducible refine Z.w_rNeI ?_
  | with_reducible refine Z.w_cb ?_
  | with_reducible refine Z.w_call0 ?_
  | with_reducible refine Z.w_call ?_
  | with_reducible refine Z.w_isi_ii ?_
  | with_reducible refine Z.w_isi_ib ?_
  | with_reducible refine Z.w_isi_bb ?_
  | with_reducible refine Z.w_isi_bi ?_
  | with_reducible refine Z.w_isi_ss ?_
  | with_reducible refine Z.w_isi_is ?_
  | ((with_reducible refine' Z.w_isi_tt ?wh ?_); (case wh => walk_at "hp"))
  | ((with_reducible refine' Z.w_isi_tl ?wh ?_); (case wh => walk_at "hp"))
  | ((with_reducible refine' Z.w_isi_ll ?wh ?_); (case wh => walk_at "hp"))
  | ((with_reducible refine' Z.w_isi_lt ?wh ?_); (case wh => walk_at "hp"))
  | ((with_reducible refine' Z.w_isi_ti ?wh ?_); (case wh => walk_at "hp"))
  | ((with_reducible refine' Z.w_isi_tb ?wh ?_); (case wh => walk_at "hp"))
  | ((with_reducible refine' Z.w_isi_ts ?wh ?_); (case wh => walk_at "hp"))
  | ((with_reducible refine' Z.w_isi_li ?wh ?_); (case wh => walk_at "hp"))
  | ((with_reducible refine' Z.w_isi_lb ?wh ?_); (case wh => walk_at "hp"))
  | ((with_reducible refine' Z.w_isi_ls ?wh ?_); (case wh => walk_at "hp"))
  | with_reducible refine Z.w_tand ?_
  | with_reducible refine Z.w_tor ?_
  | with_reducible refine Z.w_tnot ?_
  | with_reducible refine Z.w_ret ?_
  | with_reducible refine Z.w_next ?_
  | with_reducible refine Z.w_un ?_
  | with_reducible refine Z.w_rU ?_
  | with_reducible refine Z.w_tup ?_
  | with_reducible refine Z.w_lst ?_
  | with_reducible refine Z.w_par ?_
  | ((with_reducible refine' Z.w_par2 ?we ?_); case we => (simp only [List.set_cons_zero, List.set_cons_succ] <;> rfl))
  | with_reducible refine Z.w_gsub ?_
  | with_reducible refine Z.w_andV ?_
  | with_reducible refine Z.w_orV ?_
  | with_reducible refine Z.w_notV ?_
  | with_reducible refine Z.w_ifV ?_
  | with_reducible refine Z.w_drop ?_
  | with_reducible refine Z.w_break ?_
  | with_reducible refine Z.w_cont ?_
  | with_reducible refine Z.w_gcons ?_
  | with_reducible refine Z.w_gnil ?_
  | with_reducible refine Z.w_for ?_
  | with_reducible refine Z.w_rng1 ?_
  | with_reducible refine Z.w_bits ?_
  | with_reducible refine Z.w_callN ?_
  | with_reducible refine Z.w_callS ?_
  | with_reducible refine Z.w_gcd ?_
  | with_reducible refine Z.w_dnew (fun d hd => ?_)
  | with_reducible refine Z.w_dput ?_
  | with_reducible refine Z.w_din ?_
  | with_reducible refine Z.w_dnin ?_
  | with_reducible refine Z.w_iTup ?_
  | with_reducible refine Z.w_iList ?_
  | with_reducible refine Z.w_lc ?_
  | with_reducible refine Z.w_yes ?_
  | ((with_reducible refine' ⟨_, rfl, ⟨_, ?wh⟩, ?_⟩); (case wh => walk_at "seq"))
  | with_reducible refine Z.w_ex1 ?_
  | ((with_reducible refine' Z.w_ixH ?wh ?wa ?_); (case wh => walk_at "hp"); (case wa => exact rfl))
  | ((with_reducible refine' Z.w_ixTH ?wh ?wa ?_); (case wh => walk_at "hp"); (case wa => exact rfl))
  | ((with_reducible refine' Z.w_gtupH ?wh ?wa ?_); (case wh => walk_at "hp"); (case wa => exact rfl))
  | ((with_reducible refine' Z.w_setLu ?wh ?wa ?_); (case wh => exact rfl); (case wa => (simp only [Int.reduceToNat, List.set_cons_zero, List.set_cons_succ] <;> rfl)))
  | ((with_reducible refine' Z.w_setLh ?wg ?wh ?wa ?_); (case wg => walk_at "hp"); (case wh => exact rfl); (case wa => (simp only [Int.reduceToNat, List.set_cons_zero, List.set_cons_succ] <;> rfl)))
  | ((with_reducible refine Z.w_rI ?wc ?_); (case wc => walk_at "cond"))
  | with_reducible refine Or.inl ⟨_, rfl, ?_⟩
  | with_reducible refine Or.inr ⟨_, rfl, ?_⟩
  | ((with_reducible refine' ⟨_, _, rfl, Or.inl ?wh, ?_⟩); (case wh => walk_at "seq"))
  | ((with_reducible refine' ⟨_, _, rfl, Or.inr ?wh, ?_⟩); (case wh => walk_at "seq"))
  | ((with_reducible refine' Z.w_ixL ?wh ?wa ?_); (case wh => assumption); (case wa => assumption))
  | with_reducible refine ⟨_, rfl, ?_⟩
  | with_reducible refine ⟨_, _, rfl, ?_⟩
  | ((with_reducible refine ⟨?wl, fun q hq' => ?_⟩); (case wl => exact Z.sz4 (by simp)))
  | with_reducible refine Z.w_ibT ?_
  | with_reducible refine Z.w_ibF ?_
  | with_reducible refine Z.w_ibNT ?_
  | with_reducible refine Z.w_ibNF ?_
  | ((with_reducible refine Z.w_iteT ?wh ?_); (case wh => walk_at "ar"))
  | ((with_reducible refine Z.w_iteF ?wh ?_); (case wh => walk_at "ar"))
  | ((with_reducible refine Z.w_iteNT ?wh ?_); (case wh => walk_at "ar"))
  | ((with_reducible refine Z.w_iteNF ?wh ?_); (case wh => walk_at "ar"))
  | with_reducible refine ⟨rfl, ?_⟩
  | ((with_reducible refine' Z.w_ixH ?wh ?wa ?_); (case wh => walk_at "hp"); (case wa => assumption))
  | ((with_reducible refine' Z.w_ixTH ?wh ?wa ?_); (case wh => walk_at "hp"); (case wa => assumption))
  | ((with_reducible refine' Z.w_ixL ?wh ?wa ?_); (case wh => walk_at "seq"); (case wa => assumption))
  | ((with_reducible refine' Z.w_ixT ?wh ?wa ?_); (case wh => walk_at "seq"); (case wa => assumption))
  | ((with_reducible refine Z.w_iteF ?wh ?_); (case wh => (intro h; cases h; done)))
  | ((with_reducible refine Z.w_iteT ?wh ?_); (case wh => exact rfl))
  | fail "w1")
local macro_rules | `(tactic| walk_at "wi") => `(tactic| first
  | with_reducible refine Z.w_ite (fun hc => ?_) (fun hc => ?_)
  | with_reducible refine Z.w_iteN (fun hc => ?_) (fun hc => ?_)
  | with_reducible refine Z.w_iteb (fun hc => ?_) (fun hc => ?_))
local macro_rules | `(tactic| walk_at "w") => `(tactic| repeat' walk_at "w1")
namespace OWN
open PySem PySem.Spec PyProof.Rows L2
section
variable {prog : Program} {w : World} {A : Around} {E : Value → Shared → Prop} {s : Shared}
theorem next_endG {it l : Addr} {i : Nat} {items : Array Value} {Q : Option Value → Shared → Prop} (hh : A.handled = none)
    (hit : s.heap.get? it = some (GNX.itObj l i)) (hl : s.heap.IsList l items) (hx : items[i]? = none)
    (hQ : ∀ h', Heap.ExtBut it s.heap h' → h'.get? it = some (GNX.itEnd i) → Q none { s with heap := h' }) : wpAny (model prog w) A (pyNext (.ref it)) Q E s := by
  have hT : s.TypeIs (.ref it) "list_iterator" := ⟨_, hit, rfl⟩
  obtain ⟨ol, hol, _, nl, hdl⟩ := hl
  unfold pyNext
  refine wpAny_bind (wpAny_attempt (wpAny_callSpecial?_slot (name := Str.ofString "__next__") hT slot_listiter_next
    (wpAny_call_entry slot_listiter_next hT entry_listiter_next ?_ (args_listiter_next _))))
  show wpAny _ _ (field (.ref it) 0 >>= _) _ _ s
  refine wpAny_bind (wpAny_field hit rfl (x := .ref l) rfl ?_)
  show wpAny _ _ (if (Value.ref l == Value.none) = true then _ else _) _ _ s
  rw [if_neg (show ¬ ((Value.ref l == Value.none) = true) from Bool.false_ne_true)]
  show wpAny _ _ (field (.ref it) 1 >>= _) _ _ s
  refine wpAny_bind (wpAny_field hit rfl (x := .int i 0) rfl ?_)
  show wpAny _ _ (seqItems? (.ref l) >>= _) _ _ s
  refine wpAny_bind (wpAny_seqItems hol hdl ?_)
  simp only [Int.toNat_natCast, hx]
  refine wpAny_bind (wpAny_rule (wpAny_bind (wpAny_setField hit rfl (by simp) ?_)))
  have hit2 : (s.heap.update it (Obj.mapFields (·.setIfInBounds 0 Value.none))).get? it = some (GNX.itEnd i) := by
    rw [Heap.get?_update_self _ hit (by rfl)]
    exact congrArg some (GNX.end_obj l i)
  show wpAny _ _ (newExc (.type "StopIteration") [] >>= _) _ _ _
  refine wpAny_bind ?_
  simp only [newExc, newTuple]
  refine wpAny_bind (wpAny_newObj_type ?_ (by size_fits))
  refine wpAny_bind (m := firstArgMember _ _) (wpAny_of_eq (a := Value.none) (by first | rfl | (simp only [firstArgMember]; rfl)) ?_)
  refine wpAny_newObj_type ?_ (by size_fits)
  simp only [raiseNew]
  refine wpAny_bind (wpAny_handled ?_)
  rw [show A.in1.handled = none from hh]
  refine wpAny_bind (wpAny_pure (wpAny_throw ?_))
  refine wpAny_bind (wpAny_isInstance (T := "StopIteration") (b := true) ⟨_, Heap.get?_push_size _ rfl, rfl⟩ isSubtype_stop ?_)
  exact wpAny_pure (hQ _ (((Heap.SameBut.update ..).extBut.push _).push _) (Heap.get?_push_of_some _ (Heap.get?_push_of_some _ hit2)))
theorem next_itemG {it l : Addr} {i : Nat} {items : Array Value} {x : Value} {Q : Option Value → Shared → Prop} (hit : s.heap.get? it = some (GNX.itObj l i))
    (hl : s.heap.IsList l items) (hx : items[i]? = some x)
    (hQ : ∀ h', h'.get? it = some (GNX.itObj l (i + 1)) → Heap.SameBut it s.heap h' → Q (some x) { s with heap := h' }) : wpAny (model prog w) A (pyNext (.ref it)) Q E s := by
  have hT : s.TypeIs (.ref it) "list_iterator" := ⟨_, hit, rfl⟩
  unfold pyNext
  refine wpAny_bind (wpAny_attempt (wpAny_callSpecial?_slot (name := Str.ofString "__next__") hT slot_listiter_next
    (wpAny_call_entry slot_listiter_next hT entry_listiter_next ?_ (args_listiter_next _))))
  exact GNX.next_item (Q := fun v s' => wpAny _ _ _ _ _ s') hit hl hx fun h' h1 h2 => wpAny_pure (hQ h' h1 h2)
end
section
variable {X : Cx} {pins : List (Addr × Obj)} {σ : L2.St} {H : Hp} {s : Shared} {C fl fi a : Addr} {n : Nat} {A1 : Around}
/-- a call of an own def with one argument, from within a built-in -/
theorem own_call {f : Addr} {fd : FuncData} {ps : List Str} {sp : Sp} {EI : XK} {Q : VK} {Ex : Value → Shared → Prop} (sb : Sub X n A1) (F : FnOk X.prog X.w X.K X.mg X.base CX0 n f fd ps sp) (b : Binds X.K fd ps []) (I : Inv X pins σ H s) (hsp : sp [.ref a] H Q EI) :
    wpAny (model X.prog X.w) A1 (call (.ref f) [.ref a]) (fun u s' => ∃ v H', Inv X pins σ H' s' ∧ RelV v u ∧ Q v H') Ex s := by
  have e0 : Env0 X.prog X.w X.K X.mg X.base A1 X.stack s H := by
    have e := I.env0
    exact ⟨by rw [sb.fr]; exact e.frames, e.mod, e.bs, e.bsz, e.funs, e.frf, e.hok, e.bare⟩
  have hl := F.len _ _ _ _ hsp
  have r2 : Vals [V.ref a] [Value.ref a] := .cons rfl .nil
  refine wpAny_call (codeAny_mono (F.run A1 X.stack s H ⟨[.ref a], []⟩ [.ref a] [.ref a] Q EI sb.room e0 (by
    have := b s [.ref a] I.kIn (by simpa using hl)
    simpa using this) r2 hsp) fun r s' hq => ?_)
  cases r with
  | error e => exact False.elim hq
  | ok fl =>
    cases fl with
    | ret u => exact I.after hq
    | next => exact False.elim hq
    | brk => exact False.elim hq
    | cont => exact False.elim hq
/-- an own __len__ -/
structure LnC (K : PySem.W.Frag) (C fl : Addr) : Prop where
  ln : PySem.W.findIn K (.ref C) "__len__" = some (some (.ref fl))
  lt : PySem.W.typeIn K (.ref fl) = some (.type "function")
theorem own_len {fd : FuncData} {ps : List Str} {sp : Sp} {Q : VK} {dx : Addr} {fs : List (Str × V)} {Ex : Value → Shared → Prop} (sb : Sub X n A1.in1) (hc : LnC X.K C fl) (F : FnOk X.prog X.w X.K X.mg X.base CX0 n fl fd ps sp) (b : Binds X.K fd ps []) (I : Inv X pins σ H s) (ha : H a = some (.ins C dx fs))
    (hsp : sp [.ref a] H (fun v H' => ∃ k : Nat, v = .int k ∧ k < 2 ^ 60 ∧ Q (.int k) H') E0) :
    wpAny (model X.prog X.w) A1 (call (.builtin "len") [.ref a]) (fun u s' => ∃ (k : Nat) (tk : Tok) (H' : Hp), u = .int k tk ∧ k < 2 ^ 60 ∧ Inv X pins σ H' s' ∧ Q (.int k) H') Ex s := by
  obtain ⟨mA, J, _⟩ := ins_get I.hok ha
  obtain ⟨od, J, _⟩ := J.look
  refine Calls.call_function_entry kind_len plain_len entry_len (args_len1 _) ?_
  unfold Builtin.«len»
  refine wpAny_bind (m := oneArg "len" _) (wpAny_pure ?_)
  refine wpAny_bind (m := callSpecial? (.ref a) (Str.ofString "__len__")) (PySem.W.special_fn (name := "__len__") (args := []) I.kIn J hc.ln hc.lt ?_)
  refine wpAny_mono (own_call sb F b I hsp) (fun u s' hu => ?_) fun _ _ z => z
  obtain ⟨v, H', I', r, k, rfl, hk, q⟩ := hu
  obtain ⟨t, rfl⟩ := (show ∃ t, u = Value.int k t from r)
  show wpAny _ _ _ _ _ _
  refine wpAny_bind (wpAny_holding (wpAny_pure ?_))
  refine wpAny_bind (wpAny_letGo ?_)
  show wpAny _ _ (if (k : Int) < 0 then _ else _) _ _ _
  rw [if_neg (by omega)]
  show wpAny _ _ (if (k : Int) ≥ 2 ^ 63 then _ else _) _ _ _
  rw [if_neg (by omega)]
  exact wpAny_bind (wpAny_mkInt (wpAny_pure ⟨_, rfl, k, _, H', rfl, hk, I'.kept (t' := _) (fun _ _ z => z), q⟩))
def rLenOwn (C : Addr) (sp : Sp) : List V → Hp → VK → Prop := fun xs H Q => ∃ (a dx : Addr) (fs : List (Str × V)), xs = [.ref a] ∧ H a = some (.ins C dx fs) ∧ sp [.ref a] H (fun v H' => ∃ k : Nat, v = .int k ∧ k < 2 ^ 60 ∧ Q (.int k) H') E0
/-- len(o) -/
theorem call_lenOwn {fd : FuncData} {ps : List Str} {sp : Sp} (hc : LnC X.K C fl) (F : FnOk X.prog X.w X.K X.mg X.base CX0 n fl fd ps sp) (b : Binds X.K fd ps []) (hr : Room (n + 1) X.A) : CallR X (.builtin "len") (rLenOwn C sp) := by
  intro pins s σ H xs us Q I rv h
  obtain ⟨a, dx, fs, rfl, ha, hsp⟩ := h
  obtain ⟨u, rfl, ru⟩ := rv.one
  cases ru
  refine wpAny_mono (own_len (Sub.in1 (⟨hr, rfl⟩ : Sub X (n + 1) X.A)) hc F b I ha hsp) (fun u s' hu => ?_) fun _ _ z => z
  obtain ⟨k, tk, H', rfl, hk, I', q⟩ := hu
  exact ⟨.int k, H', I', ⟨_, rfl⟩, q⟩
/-- an own __iter__ that gives an iterator over a list, and an own __len__ -/
structure ItB (K : PySem.W.Frag) (C fi fl : Addr) : Prop where
  it : PySem.W.findIn K (.ref C) "__iter__" = some (some (.ref fi))
  itF : PySem.W.isFn K (.ref fi) = true
  ln : LnC K C fl
theorem upd_swap {H : Hp} {q it : Addr} {o1 o2 o3 o4 : HO} (h : q ≠ it) : upd (upd (upd (upd H q o1) it o2) it o3) q o4 = upd (upd H q o4) it o3 := by
  funext b
  by_cases h1 : b = q
  · subst h1
    rw [upd_same, upd_ne h, upd_same]
  · rw [upd_ne h1]
    by_cases h2 : b = it
    · subst h2
      rw [upd_same, upd_same]
    · rw [upd_ne h2, upd_ne h2, upd_ne h1, upd_ne h2, upd_ne h1]
theorem sqL_upd {K : PySem.W.Frag} {H : Hp} {l b : Addr} {o : HO} {xs : List V} (h : SqL K H l xs) (n : l ≠ b) : SqL K (upd H b o) l xs := by
  rcases h with (h | ⟨o', h⟩) | h
  · exact .inl (.inl (by rw [upd_ne n]; exact h))
  · exact .inl (.inr ⟨o', by rw [upd_ne n]; exact h⟩)
  · exact .inr h
theorem it_loop {q l it : Addr} {ys : List V} {H0 : Hp} {Rs : Result → Shared → Prop} (hh : A1.in1.handled = none) (hS : SqL X.K H0 l ys) (n1 : l ≠ q) (n2 : l ≠ it) (n3 : q ≠ it) (hz : ys.length ≤ sizeLine)
    (hdone : ∀ s, Inv X pins σ (upd (upd H0 q (.lst ys)) it (ItE it ys.length)) s → Rs (.ok (.ret .none)) s) :
    ∀ (m i : Nat) (s : Shared), m = ys.length - i → i ≤ ys.length → Inv X pins σ (upd (upd H0 q (.lst (ys.take i))) it (ItO l it i)) s → codeAny (model X.prog X.w) A1 (.builtin "list.extend.loop" ⟨[.ref q, .ref it, .none], []⟩) Rs s := by
  intro m
  induction m with
  | zero =>
    intro i s hm hi I
    have e : i = ys.length := by omega
    subst e
    refine codeAny_builtin PySem.F.entry_extend_loop ?_
    rw [Around.under_plainId PySem.F.plain_extend_loop _]
    show wpAny _ A1.in1 (pyNext (.ref it) >>= _) _ _ s
    have hit := (I.hok it _ upd_same).1
    obtain ⟨its, rv, pl, _⟩ := I.list (sqL_upd (sqL_upd hS n1) n2)
    have hlen := rv.length
    refine wpAny_bind (next_endG hh hit pl.isList (by simp [hlen]) fun h' hx he => ?_)
    refine wpAny_pure (hdone _ ?_)
    have I1 : Inv X pins σ (upd (upd (upd H0 q (.lst (ys.take ys.length))) it (ItO l it ys.length)) it (ItE it ys.length)) { s with heap := h' } :=
      I.write (x := it) (e := it) (t' := s.toks) (by rw [upd_same]; exact trivial) (.inl rfl) (fun b u hb e => hx b u hb e) ⟨_, he⟩ (itE_ok he)
    rw [upd_upd, List.take_length] at I1
    exact I1
  | succ m ih =>
    intro i s hm hi I
    have hlt : i < ys.length := by omega
    refine codeAny_builtin PySem.F.entry_extend_loop ?_
    rw [Around.under_plainId PySem.F.plain_extend_loop _]
    show wpAny _ A1.in1 (pyNext (.ref it) >>= _) _ _ s
    have hit := (I.hok it _ upd_same).1
    obtain ⟨its, rv, pl, _⟩ := I.list (sqL_upd (sqL_upd hS n1) n2)
    have hlen := rv.length
    obtain ⟨u, hu, ru⟩ := rv.get (List.getElem?_eq_getElem hlt)
    refine wpAny_bind (next_itemG hit pl.isList (x := u) (by simpa using hu) fun h' he hx => ?_)
    have I1 : Inv X pins σ (upd (upd (upd H0 q (.lst (ys.take i))) it (ItO l it i)) it (ItO l it (i + 1))) { s with heap := h' } :=
      I.write (x := it) (e := it) (t' := s.toks) (by rw [upd_same]; exact trivial) (.inl rfl) (fun b u hb e => (hx.2 b hb).trans e) ⟨_, he⟩ (itO_ok he)
    have hq : (upd (upd (upd H0 q (.lst (ys.take i))) it (ItO l it i)) it (ItO l it (i + 1))) q = some (.lst (ys.take i)) := by rw [upd_ne n3, upd_ne n3, upd_same]
    obtain ⟨z, is2, k, r2, hl2, e⟩ := I1.lstM hq
    have hl3 : is2.length ≤ sizeLine := by omega
    rw [List.length_take] at hl2
    show wpAny _ A1.in1 (updateSeq q (·.push u) >>= _) _ _ _
    refine wpAny_bind (wpAny_updateSeq e rfl (wpAny_pure ⟨plainId_quiet PySem.F.plain_extend_loop _, ?_⟩) (by rw [List.size_toArray]; omega) (by show (is2.toArray.push u).size ≤ sizeLine + 1; rw [Array.size_push, List.size_toArray]; omega))
    have ht : ys.take (i + 1) = ys.take i ++ [ys[i]] := by rw [List.take_add_one, List.getElem?_eq_getElem hlt]; rfl
    refine ih (i + 1) _ (by omega) hlt ?_
    have I2 := I1.lset (its' := is2 ++ [u]) (ys := ys.take (i + 1)) (t' := s.toks) (f := (·.push u)) hq e (by simp) (by rw [ht]; exact r2.append (.cons ru .nil)) (by rw [List.length_take]; omega)
    rw [upd_swap n3] at I2
    exact I2
/-- list(o) -/
def LenEnd (H : Hp) (R : Prop) : VK := fun v H' => ∃ k : Nat, v = .int k ∧ k < 2 ^ 60 ∧ (H' = H ∧ (∀ j : Nat, V.int k = .int j → j ≤ sizeLine) ∧ R)
def rListIt (K : PySem.W.Frag) (C : Addr) (spI spL : Sp) : List V → Hp → VK → Prop := fun xs H Q => ∃ (a dx : Addr) (fs : List (Str × V)), xs = [.ref a] ∧ H a = some (.ins C dx fs) ∧
  ∀ q, H q = none → spI [.ref a] (upd H q (.lst [])) (fun v H1 => ∃ (l it : Addr) (ys : List V) (Hb : Hp) (fs' : List (Str × V)) (dx' : Addr), v = .ref it ∧ H1 = upd (upd Hb q (.lst [])) it (ItO l it 0) ∧ l ≠ q ∧ l ≠ it ∧ q ≠ it ∧ ys.length ≤ 1000 ∧ SqL K Hb l ys ∧ H1 a = some (.ins C dx' fs') ∧
    spL [.ref a] H1 (LenEnd H1 (Q (.ref q) (upd (upd Hb q (.lst ys)) it (ItE it ys.length)))) E0) E0
theorem own_hintL {fd : FuncData} {ps : List Str} {sp : Sp} {dx : Addr} {fs : List (Str × V)} {Qb : Bool → Shared → Prop} {Ex : Value → Shared → Prop} (sb : Sub X n A1.in1) (hc : LnC X.K C fl) (F : FnOk X.prog X.w X.K X.mg X.base CX0 n fl fd ps sp) (b : Binds X.K fd ps []) (I : Inv X pins σ H s) (ha : H a = some (.ins C dx fs))
    {R : Prop} (hsp : sp [.ref a] H (LenEnd H R) E0) (hq : ∀ b s', R → Inv X pins σ H s' → Qb b s') :
    wpAny (model X.prog X.w) A1 (Builtin.List.listLengthHint (.ref a)) Qb Ex s := by
  obtain ⟨mA, J, _⟩ := ins_get I.hok ha
  obtain ⟨od, J, _⟩ := J.look
  unfold Builtin.List.listLengthHint
  refine wpAny_bind (wpAny_bind (J.type.here ((PySem.W.looks_findIn I.kIn hc.ln).here ?_)))
  refine PySem.W.KFB.if_not rfl ?_
  rw [if_pos (show (some (Value.ref fl)).isSome = true from rfl)]
  refine wpAny_bind (wpAny_rule ?_)
  refine wpAny_bind (wpAny_attempt (wpAny_mono (own_len (Q := fun v H' => H' = H ∧ (∀ j : Nat, v = .int j → j ≤ sizeLine) ∧ R) (Ex := fun _ _ => False) sb hc F b I ha hsp) (fun u s' hu => ?_) fun e s' he => he.elim))
  obtain ⟨k, tk, H', rfl, hk, I', rfl, hz, hR⟩ := hu
  have hz' := hz k rfl
  show wpAny _ _ _ _ _ _
  refine wpAny_bind (wpAny_pure ?_)
  show wpAny _ _ (if Builtin.List.listTooLong ((k : Int)).toNat = true then _ else pure ((k : Int) != 0)) _ _ _
  rw [if_neg (by rw [Int.toNat_natCast, notLongL hz']; exact Bool.false_ne_true)]
  exact wpAny_pure (hq _ _ hR I')
theorem listiter_next : typeLookup (.type "list_iterator") "__next__" = pure (some (.builtin "list_iterator.__next__")) := slot_listiter_next.lookup
theorem call_listIt {fdI fdL : FuncData} {psI psL : List Str} {spI spL : Sp} (hc : ItB X.K C fi fl) (FI : FnOk X.prog X.w X.K X.mg X.base CX0 n fi fdI psI spI) (bI : Binds X.K fdI psI []) (FL : FnOk X.prog X.w X.K X.mg X.base CX0 n fl fdL psL spL) (bL : Binds X.K fdL psL []) (hr : Room (n + 3) X.A) (hh : X.A.handled = none) : CallR X (.type "list") (rListIt X.K C spI spL) := by
  intro pins s σ H xs us Q I rv h
  obtain ⟨a, dx, fs, rfl, ha, hq⟩ := h
  obtain ⟨u, rfl, ru⟩ := rv.one
  cases ru
  have sb : Sub X (n + 1) X.A.in1.in1 := Sub.in1 (Sub.in1 (⟨hr, rfl⟩ : Sub X (n + 3) X.A))
  refine callType_codes (Q₁ := fun obj s₁ => obj = .ref s.heap.objs.size ∧ s₁ = { s with heap := s.heap.push { cls := .type "list", data := .seq #[] } }) PySem.F.called_list (PySem.F.typeCall_list_1 _) PySem.F.entry_list_init
    (code_list_new _ ⟨rfl, rfl⟩) fun obj s₁ h₁ => ?_
  obtain ⟨rfl, rfl⟩ := h₁
  have hS : (s.heap.push { cls := .type "list", data := .seq #[] }).get? s.heap.objs.size = some { cls := .type "list", data := .seq #[] } := Heap.get?_push_size _ rfl
  refine ⟨⟨_, hS, rfl⟩, PySem.F.args_list_init_2 _ _, ?_⟩
  have fr : H s.heap.objs.size = none := I.hok.fresh (Nat.le_refl _)
  have hrun := hq _ fr
  have I1 : Inv X pins σ (upd H s.heap.objs.size (.lst [])) { s with heap := s.heap.push { cls := .type "list", data := .seq #[] } } := I.lnew (its := []) (t' := s.toks) .nil (Nat.zero_le _)
  show wpAny _ _ (do let old ← Builtin.List.listItems (.ref s.heap.objs.size); Builtin.List.listUpdate (.ref s.heap.objs.size) (fun _ => #[]); letGo old.toList.reverse; Builtin.List.listExtendWith (.ref s.heap.objs.size) (.ref a) .none) _ _ _
  refine wpAny_bind ?_
  unfold Builtin.List.listItems
  refine wpAny_bind (wpAny_seqItems hS rfl (wpAny_pure ?_))
  show wpAny _ _ (updateSeq s.heap.objs.size (fun _ => #[]) >>= fun _ => letGo (#[] : Array Value).toList.reverse >>= fun _ => Builtin.List.listExtendWith (.ref s.heap.objs.size) (.ref a) .none) _ _ _
  refine wpAny_bind (wpAny_updateSeq hS rfl ?_)
  have I2 := I1.lset (f := fun _ => #[]) (its := []) (its' := []) (ys := []) (t' := s.toks) upd_same hS rfl .nil (Nat.zero_le _)
  rw [upd_upd] at I2
  refine wpAny_bind (wpAny_letGo ?_)
  have ha2 : upd H s.heap.objs.size (.lst []) a = some (.ins C dx fs) := by rw [upd_ne (ne_of_none ha fr)]; exact ha
  have hne : s.heap.objs.size ≠ a := Ne.symm (ne_of_none ha fr)
  generalize s.heap.objs.size = q at *
  obtain ⟨mA, J, _⟩ := ins_get I2.hok ha2
  obtain ⟨od, J, _⟩ := J.look
  obtain ⟨m0, hF⟩ := I2.fr
  unfold Builtin.List.listExtendWith
  refine wpAny_bind (J.type.here ?_)
  have h1 : Builtin.List.listSameRef (.ref q) (.ref a) = false := by simp [Builtin.List.listSameRef, hne]
  have h2 : (Value.ref C == Value.type "list") = false := rfl
  have h3 : (Value.ref C == Value.type "tuple") = false := rfl
  simp only [h1, h2, h3, Bool.or_false, Bool.false_eq_true, if_false]
  refine wpAny_bind (PySem.W.owit_iter hF I2.ok.mod.kin J hc.it hc.itF ?_)
  refine wpAny_mono (own_call (sb.mono (Nat.le_succ _)) FI bI I2 hrun) (fun u s' hu => ?_) fun _ _ z => z
  obtain ⟨v, H1, J1, rv1, l, it, ys, Hb, fs', dx', rfl, rfl, n1, n2, n3, hy, hS1, ha3, hlen⟩ := hu
  cases rv1
  have hz : ys.length ≤ sizeLine := Nat.le_trans hy (by decide)
  have hit := (J1.hok it _ upd_same).1
  have hT : s'.TypeIs (.ref it) "list_iterator" := ⟨_, hit, rfl⟩
  unfold PySem.W.OwitIt
  refine wpAny_specialOf (name := "__next__") hT listiter_next ?_
  refine wpAny_bind (wpAny_holding (own_hintL sb.in1 hc.ln FL bL J1 ha3 hlen fun b s2 hR J2 => ?_))
  have fin : ∀ s3, Inv X pins σ (upd (upd Hb q (.lst [])) it (ItO l it 0)) s3 → codeAny (model X.prog X.w) X.A.in1 (.builtin "list.extend.loop" ⟨[.ref q, .ref it, .none], []⟩) (wants (fun r s₂ => r = .none ∧ EP X pins σ Q (.ref q) s₂) X.xe) s3 := fun s3 J3 =>
    it_loop (A1 := X.A.in1) (H0 := Hb) (ys := ys) hh hS1 n1 n2 n3 hz (fun s4 J4 => ⟨rfl, .ref q, _, J4, rfl, hR⟩) ys.length 0 s3 rfl (Nat.zero_le _) J3
  refine wpAny_ite_split (fun _ => ?_) (fun _ => wpAny_pure ⟨plainId_quiet PySem.F.plain_extend_loop _, fin _ J2⟩)
  have hq0 : (upd (upd Hb q (.lst [])) it (ItO l it 0)) q = some (.lst []) := by rw [upd_ne n3, upd_same]
  obtain ⟨z, its, k, r3, hl3, e3⟩ := J2.lstM hq0
  cases r3
  refine wpAny_bind (wpAny_rule ?_)
  refine wpAny_bind ?_
  show wpAny _ _ (updateSeq q (·.push .none) >>= fun _ => updateSeq q (·.pop)) _ _ _
  refine wpAny_bind (wpAny_updateSeq e3 rfl ?_)
  have I5 := J2.lset (f := (·.push Value.none)) (its' := [Value.none]) (ys := [.non]) (t' := s2.toks) hq0 e3 (by simp) (.cons rfl .nil) (by rw [List.length_singleton, sizeLine_eq]; decide)
  obtain ⟨z4, its4, k4, r4, hl4, e4⟩ := I5.lstM upd_same
  obtain ⟨u4, rfl, ru4⟩ := r4.one
  refine wpAny_updateSeq e4 rfl ?_ (by show 1 ≤ sizeLine; rw [sizeLine_eq]; decide) (by show 0 ≤ sizeLine + 1; exact Nat.zero_le _)
  refine wpAny_pure ⟨plainId_quiet PySem.F.plain_extend_loop _, fin _ ?_⟩
  have I6 := I5.lset (f := (·.pop)) (its := [u4]) (its' := []) (ys := []) (t' := s2.toks) upd_same e4 (by rfl) .nil (Nat.zero_le _)
  rw [upd_upd] at I6
  have hH : upd (upd (upd Hb q (.lst [])) it (ItO l it 0)) q (.lst []) = upd (upd Hb q (.lst [])) it (ItO l it 0) := by
    funext b
    by_cases hb : b = q
    · rw [hb, upd_same, hq0]
    · rw [upd_ne hb]
  rw [hH] at I6
  exact I6
end
end OWN

namespace DT
open PySem PySem.Spec PyProof.Rows L2
/-- what is known of a tuple that was made from a list -/
def Bare (o : Obj) : Prop := o.cls = .type "tuple" ∧ o.dict = none
section
variable {X : Cx}
def rTupZ (K : PySem.W.Frag) : List V → Hp → VK → Prop := fun xs H Q => ∃ (p : Addr) (ys : List V), xs = [.ref p] ∧ SqL K H p ys ∧ ∀ (l : Addr) (o : Obj), H l = none → Bare o → Q (.ref l) (upd H l (.frz o (.tup ys)))
theorem call_tupleZ : CallR X (.type "tuple") (rTupZ X.K) := by
  intro pins s σ H xs us Q I r h
  obtain ⟨p, ys, rfl, hq, q⟩ := h
  obtain ⟨u, rfl, rx⟩ := vals1 r
  cases rx
  obtain ⟨its, r', pl, hz⟩ := I.list hq
  have hlen := r'.length
  refine call_tuple_list pl.isList (fun h' kp => ?_) (by simp only [List.size_toArray] <;> omega)
  have I1 : Inv X pins σ H { s with heap := h' } := I.kept (t' := s.toks) kp
  have I2 : Inv X pins σ (upd H h'.objs.size (.frz { cls := .type "tuple", data := .seq its.toArray } (.tup ys))) { s with heap := h'.push { cls := .type "tuple", data := .seq its.toArray } } :=
    I1.laid (t' := s.toks) (fun b o e => Heap.get?_push_of_some _ e) (Nat.le_refl _) (show ObjOk X.prog X.w _ _ _ (.frz _ (.tup ys)) from ⟨Heap.get?_push_size _ rfl, hz, its, r', IsTup.new _ _⟩)
  exact ⟨.ref h'.objs.size, _, I2, rfl, q _ _ (I1.hok.fresh (Nat.le_refl _)) ⟨rfl, rfl⟩⟩
theorem pairs_of2 {pins : List (Addr × Obj)} {σ : L2.St} {H : Hp} {s : Shared} (I : Inv X pins σ H s) : ∀ {ps : List Addr} {kvs : List (Key × V)}, PySem.Paired (fun p kv => SqT X.K H p [kV kv.1, kv.2]) ps kvs →
    ∃ (prs : List (Key × Value)) (uvs : List (Value × Value)), KV kvs prs ∧ prs.length = ps.length ∧ uvs.length = ps.length ∧ ∀ (j : Nat) (u x : Value), uvs[j]? = some (u, x) → ∃ (b : Addr) (k : Key), ps[j]? = some b ∧ prs[j]? = some (k, x) ∧ IsTup s.heap b #[u, x] ∧ keyIs k u = true
  | _, _, .nil => ⟨[], [], .nil, rfl, rfl, fun j u x e => by simp at e⟩
  | _, _, .cons (a := p) (b := kv) h t => by
    obtain ⟨prs, uvs, r, hl, hl2, hp⟩ := pairs_of2 I t
    obtain ⟨its, rv, ht, _⟩ := I.tuple h
    obtain ⟨u, y, ei, ru, ry⟩ := vals2 rv
    subst ei
    refine ⟨(kv.1, y) :: prs, (u, y) :: uvs, .cons ⟨rfl, ry⟩ r, by rw [List.length_cons, List.length_cons, hl], by rw [List.length_cons, List.length_cons, hl2], fun j u' x e => ?_⟩
    cases j with
    | zero =>
      have e' : (u, y) = (u', x) := Option.some.inj e
      obtain ⟨e1, e2⟩ := Prod.mk.inj e'
      subst e1
      subst e2
      exact ⟨p, kv.1, rfl, rfl, ht, kV_is (P := X.prog) (w := X.w) ru⟩
    | succ j =>
      obtain ⟨b, k, e1, e2, e3⟩ := hp j u' x (by simpa using e)
      exact ⟨b, k, by simpa using e1, by simpa using e2, e3⟩
def rDictT (K : PySem.W.Frag) : List V → Hp → VK → Prop := fun xs H Q => ∃ (a : Addr) (o : Obj) (ps : List Addr) (kvs : List (Key × V)), xs = [.ref a] ∧ H a = some (.frz o (.tup (ps.map V.ref))) ∧ Bare o ∧ PySem.Paired (fun p kv => SqT K H p [kV kv.1, kv.2]) ps kvs ∧
    ∀ p, H p = none → Q (.ref p) (upd H p (.dK (mergeK [] kvs)))
theorem call_dictT (hcalm : X.calm = true) : CallR X (.type "dict") (rDictT X.K) := by
  intro pins s σ H xs us Q I r q
  obtain ⟨a, o, ps, kvs, rfl, ha, ⟨hcls, hdict⟩, hp, q⟩ := q
  obtain ⟨u, rfl, rx⟩ := vals1 r
  cases rx
  obtain ⟨ho, hz, its, rv, o', ho', hc', n, hdat⟩ := (show ObjOk X.prog X.w H s.heap a (.frz o (.tup (ps.map V.ref))) from I.hok a _ ha)
  have eo : o' = o := Option.some.inj (ho'.symm.trans ho)
  subst eo
  have ei := refs_at rv
  subst ei
  rw [List.length_map] at hz
  obtain ⟨prs, uvs, rel, hl, hl2, hpr⟩ := pairs_of2 I hp
  have hP := PairArg.tuple (prog := X.prog) (w := X.w) a (ps.map Value.ref).toArray (fun j => ps.getD j 0) uvs
  refine PySem.call_dict_pairs (knd := mixKind X.prog X.w) (kvs := prs) hP (I.ok.hd hcalm) ⟨⟨o', n, ho, hc', hdict, hdat⟩, ?_, fun j k v e => ?_⟩ ⟨by rw [hl, hl2], fun i key v e => ?_⟩ (by rw [hl2]; exact hz) fun h' tk hd' k => ?_
  · simp [hl2]
  · obtain ⟨b, k', e1, e2, e3, e4⟩ := hpr j k v e
    have hg : ps.getD j 0 = b := by
      rw [List.getD_eq_getElem?_getD, e1]
      rfl
    show (ps.map Value.ref).toArray[j]? = some (.ref (ps.getD j 0)) ∧ PairAt s.heap (ps.getD j 0) k v
    rw [hg]
    exact ⟨by simp [e1], .inl e3⟩
  · obtain ⟨b, k', e1, e2, e3, e4⟩ := hpr i key v e
    exact ⟨k', e2, e4⟩
  · have hm : (s.heap.objs.size == sysModules) = false := beq_eq_false_iff_ne.mpr (Nat.ne_of_gt I.big)
    have hlen : (mergeK [] kvs).length ≤ sizeLine := by
      refine Nat.le_trans (length_mergeK kvs []) ?_
      rw [List.length_nil, Nat.zero_add, rel.length, hl]
      exact hz
    exact ⟨.ref s.heap.objs.size, upd H s.heap.objs.size (.dK (mergeK [] kvs)), I.laid (t' := tk) (fun b o e => k b o (by intro h; cases h) e) (Nat.le_refl _) (show ObjOk X.prog X.w _ _ _ (.dK (mergeK [] kvs)) from ⟨hlen, hm, merged [] prs, KV.merge rel .nil, hd'⟩), rfl, q _ (I.hok.fresh (Nat.le_refl _))⟩
theorem hits_ref {A : Around} {s : Shared} {kvs : List (Key × V)} {vb : List (Key × Value)} (rb : KV kvs vb) {ks : List (Key × V)} {va : List (Key × Value)} (ra : KV ks va) :
    (∀ p ∈ ks, valV kvs p.1 = some p.2 ∧ ∃ t, p.2 = V.ref t) → PySem.W.KeqHits A s vb va true := by
  unfold KV at ra
  induction ra with
  | nil => intro _; exact .nil
  | @cons p q ps qs h t ih =>
    intro hp
    obtain ⟨h1, h2⟩ := h
    obtain ⟨e, t', f⟩ := hp p List.mem_cons_self
    have rr : RelO (some p.2) (valueAt vb p.1) := by rw [← e]; exact rb.val p.1
    obtain ⟨y, hy, ry⟩ := rr.some_of
    obtain ⟨k, v⟩ := q
    have h1' : p.1 = k := h1
    rw [h1'] at hy
    rw [f] at ry h2
    have e1 : y = Value.ref t' := ry
    have e2 : v = Value.ref t' := h2
    subst e1
    subst e2
    show PySem.W.KeqHits A s vb ((k, Value.ref t') :: qs) (true && true)
    exact .hit hy (SeqAt.EqAt.same _) (ih fun p' hm => hp p' (List.mem_cons_of_mem _ hm))
def rEqDR : R2 := fun x y H Q => ∃ (a b : Addr) (kvs : List (Key × V)), x = .ref a ∧ y = .ref b ∧ H a = some (.dK kvs) ∧ H b = some (.dK kvs) ∧ (kvs.map (·.1)).Nodup ∧ (∀ p ∈ kvs, ∃ t, p.2 = V.ref t) ∧ Q (.bl true) H
theorem op_eq_dictR (hu : X.A.units < cLine) : OpR X (compareOp .Eq) rEqDR := by
  intro pins s σ H x y v u Q I rx ry h
  obtain ⟨a, b, kvs, rfl, rfl, ea, eb, nd, fl, q⟩ := h
  obtain rfl : v = Value.ref a := rx
  obtain rfl : u = Value.ref b := ry
  obtain ⟨_, ya, va, ra, da⟩ := (show ObjOk X.prog X.w H s.heap a (.dK kvs) from I.hok a _ ea)
  obtain ⟨_, yb, vb, rb, db⟩ := (show ObjOk X.prog X.w H s.heap b (.dK kvs) from I.hok b _ eb)
  have hl : va.length = vb.length := by rw [← ra.length, ← rb.length]
  exact PySem.W.keq_eq (knd := mixKind X.prog X.w) (r := true) ya yb da db hu (fun _ => hits_ref rb ra fun p hp => ⟨val_nodup nd p hp, fl p hp⟩) (fin_bl I q (by simp [hl]))
end
end DT
namespace DT
open PySem PySem.Spec PyProof.Rows L2
section
variable {X : Cx}
/-- d.update(e) of two dicts -/
def rUpdate : V → List V → Hp → VK → Prop := fun x xs H Q => ∃ (d o : Addr) (kvs more : List (Key × V)), x = .ref d ∧ xs = [.ref o] ∧ d ≠ o ∧ H d = some (.dK kvs) ∧ H o = some (.dK more) ∧ kvs.length + more.length ≤ sizeLine ∧ Q .non (upd H d (.dK (mergeK kvs more)))
theorem mt_update : MtR X "dict.update" rUpdate := by
  intro pins s σ H x xs v us Q I rx rv h
  obtain ⟨d, o, kvs, more, rfl, rfl, hne, hd, ho, hz, q⟩ := h
  cases rx
  obtain ⟨u, rfl, ru⟩ := rv.one
  cases ru
  obtain ⟨_, y1, va, ra, da⟩ := dk_of I.hok hd
  obtain ⟨_, y2, vb, rb, db⟩ := dk_of I.hok ho
  have hz2 : va.length + vb.length ≤ sizeLine := by rw [← ra.length, ← rb.length]; exact hz
  refine call_meetsIn PySem.F.slot_dict_update da.typeIs PySem.F.entry_dict_update (PySem.F.args_dict_update_2 _ _) (meets_dict_update (mixKind X.prog X.w) d o hne y2) ⟨va, vb, da, db, hz2, fun h' hd' ho' hs => ?_⟩
  have hlen : (mergeK kvs more).length ≤ sizeLine := Nat.le_trans (length_mergeK more kvs) (by omega)
  have he : ∃ q, h'.get? d = some q := by
    obtain ⟨ob, _, _, hob, _⟩ := hd'
    exact ⟨ob, hob⟩
  exact ⟨V.non, _, d_write (t' := s.toks) I (by rw [hd]; exact trivial) hs he (dk_new hlen y1 (rb.merge ra) hd'), rfl, q⟩
end
end DT

namespace QC
open PySem PySem.Spec PyProof.Rows L2
def rLenQ (K : PySem.W.Frag) : List V → Hp → VK → Prop := fun xs H Q => ∃ p ys, xs = [.ref p] ∧ (SqL K H p ys ∨ SqT K H p ys) ∧ Q (.int ys.length) H
theorem call_lenQ {X : Cx} : CallR X (.builtin "len") (rLenQ X.K) := call_len_seq
end QC

namespace OWN
open PySem PySem.Spec PyProof.Rows L2
section
variable {X : Cx} {pins : List (Addr × Obj)} {σ : L2.St} {H : Hp} {s : Shared} {C fc a : Addr} {n : Nat} {A1 : Around}
/-- a call of an own def with two arguments, from within a built-in or an operator -/
theorem own_call2 {f : Addr} {fd : FuncData} {ps : List Str} {sp : Sp} {EI : XK} {Q : VK} {x y : V} {u v : Value} {Ex : Value → Shared → Prop} (sb : Sub X n A1) (F : FnOk X.prog X.w X.K X.mg X.base CX0 n f fd ps sp) (b : Binds X.K fd ps []) (I : Inv X pins σ H s) (rx : RelV x u) (ry : RelV y v) (hsp : sp [x, y] H Q EI) :
    wpAny (model X.prog X.w) A1 (call (.ref f) [u, v]) (fun u s' => ∃ v H', Inv X pins σ H' s' ∧ RelV v u ∧ Q v H') Ex s := by
  have e0 : Env0 X.prog X.w X.K X.mg X.base A1 X.stack s H := by
    have e := I.env0
    exact ⟨by rw [sb.fr]; exact e.frames, e.mod, e.bs, e.bsz, e.funs, e.frf, e.hok, e.bare⟩
  have hl := F.len _ _ _ _ hsp
  have r2 : Vals [x, y] [u, v] := .cons rx (.cons ry .nil)
  refine wpAny_call (codeAny_mono (F.run A1 X.stack s H ⟨[u, v], []⟩ [u, v] [x, y] Q EI sb.room e0 (by
    have := b s [u, v] I.kIn (by simpa using hl)
    simpa using this) r2 hsp) fun r s' hq => ?_)
  cases r with
  | error e => exact False.elim hq
  | ok fl =>
    cases fl with
    | ret u => exact I.after hq
    | next => exact False.elim hq
    | brk => exact False.elim hq
    | cont => exact False.elim hq
/-- an own __contains__ -/
structure InC (K : PySem.W.Frag) (C fc : Addr) : Prop where
  it : PySem.W.findIn K (.ref C) "__contains__" = some (some (.ref fc))
  lt : PySem.W.typeIn K (.ref fc) = some (.type "function")
/-- x in o: what the own def gives is a bool -/
def rInOwn (C : Addr) (sp : Sp) (neg : Bool) : R2 := fun x y H Q => ∃ (a dx : Addr) (fs : List (Str × V)), y = .ref a ∧ H a = some (.ins C dx fs) ∧ sp [.ref a, x] H (fun v H' => ∃ b : Bool, v = .bl b ∧ Q (.bl (if neg then !b else b)) H') E0
theorem own_contains {fd : FuncData} {ps : List Str} {sp : Sp} {dx : Addr} {fs : List (Str × V)} {Q : Bool → Hp → Prop} {Qs : Bool → Shared → Prop} {x : V} {u : Value} {Ex : Value → Shared → Prop} (sb : Sub X n A1) (hc : InC X.K C fc) (F : FnOk X.prog X.w X.K X.mg X.base CX0 n fc fd ps sp) (b : Binds X.K fd ps []) (I : Inv X pins σ H s) (ha : H a = some (.ins C dx fs)) (rx : RelV x u)
    (hsp : sp [.ref a, x] H (fun v H' => ∃ b : Bool, v = .bl b ∧ Q b H') E0) (hq : ∀ b s' H', Inv X pins σ H' s' → Q b H' → Qs b s') :
    wpAny (model X.prog X.w) A1 (contains (.ref a) u) Qs Ex s := by
  obtain ⟨mA, J, _⟩ := ins_get I.hok ha
  obtain ⟨od, J, _⟩ := J.look
  unfold contains
  refine wpAny_holding ?_
  have hnone : stdlibNamesSay? (.ref a) u = none := by
    unfold stdlibNamesSay?
    rfl
  simp only [hnone]
  refine wpAny_bind (wpAny_bind (J.type.here ((PySem.W.looks_findIn I.kIn hc.it).here ?_)))
  show wpAny _ _ (if (some (Value.ref fc) == some Value.none) = true then _ else _) _ _ _
  rw [if_neg (by exact Bool.false_ne_true)]
  refine wpAny_bind (m := callSpecialUnlessNone? (.ref a) "__contains__" [u] _) ?_
  unfold callSpecialUnlessNone?
  refine wpAny_bind (wpAny_bind (J.type.here ((PySem.W.looks_findIn I.kIn hc.it).here ?_)))
  refine wpAny_holding (wpAny_bind ((PySem.W.bind_fn I.kIn _ hc.lt).here ?_))
  show wpAny _ _ (if (Value.ref fc == Value.none) = true then _ else _) _ _ _
  rw [if_neg (by exact Bool.false_ne_true)]
  refine wpAny_bind (wpAny_mono (own_call2 (Ex := Ex) sb F b I (x := V.ref a) (show RelV (V.ref a) (Value.ref a) from rfl) rx hsp) (fun v s' hv => ?_) fun _ _ z => z)
  obtain ⟨w', H', I', r, k, rfl, q⟩ := hv
  cases r
  refine wpAny_pure ?_
  exact wpAny_truthy_bool (hq _ _ _ I' q)
theorem op_inOwn {fd : FuncData} {ps : List Str} {sp : Sp} (hc : InC X.K C fc) (F : FnOk X.prog X.w X.K X.mg X.base CX0 n fc fd ps sp) (b : Binds X.K fd ps []) (hr : Room n X.A) : OpR X (compareOp .In) (rInOwn C sp false) := by
  intro pins s σ H x y v u Q I rx ry h
  obtain ⟨a, dx, fs, rfl, ha, hsp⟩ := h
  obtain rfl : u = Value.ref a := ry
  show wpAny _ _ (do return Value.bool (← contains (.ref a) v)) _ _ s
  refine wpAny_bind (own_contains (Q := fun b H' => Q (.bl b) H') ⟨hr, rfl⟩ hc F b I ha rx hsp fun b s' H' I' q => ?_)
  exact wpAny_pure ⟨.bl b, H', I', rfl, q⟩
theorem op_ninOwn {fd : FuncData} {ps : List Str} {sp : Sp} (hc : InC X.K C fc) (F : FnOk X.prog X.w X.K X.mg X.base CX0 n fc fd ps sp) (b : Binds X.K fd ps []) (hr : Room n X.A) : OpR X (compareOp .NotIn) (rInOwn C sp true) := by
  intro pins s σ H x y v u Q I rx ry h
  obtain ⟨a, dx, fs, rfl, ha, hsp⟩ := h
  obtain rfl : u = Value.ref a := ry
  show wpAny _ _ (do return Value.bool (!(← contains (.ref a) v))) _ _ s
  refine wpAny_bind (own_contains (Q := fun b H' => Q (.bl (!b)) H') ⟨hr, rfl⟩ hc F b I ha rx hsp fun b s' H' I' q => ?_)
  exact wpAny_pure ⟨.bl (!b), H', I', rfl, q⟩
end
end OWN
namespace OWN
open PySem PySem.Spec PyProof.Rows L2
theorem keep_all {a n : Nat} (f : Nat → Bool) (hf : ∀ k, f k = decide (a ≤ k ∧ k < n)) : ∀ (xs : List Value) (j : Nat), j + xs.length = n → (xs.zipIdx j).filterMap (fun (x, k) => if f k then none else some x) = xs.take (a - j)
  | [], j, _ => by simp
  | x :: xs, j, h => by
    rw [List.zipIdx_cons, List.filterMap_cons]
    have ih := keep_all f hf xs (j + 1) (by rw [List.length_cons] at h; omega)
    simp only [hf j]
    by_cases e : a ≤ j
    · have e1 : decide (a ≤ j ∧ j < n) = true := decide_eq_true ⟨e, by rw [List.length_cons] at h; omega⟩
      rw [e1]
      simp only [if_true]
      rw [ih, show a - j = 0 by omega, show a - (j + 1) = 0 by omega]
      rfl
    · have e1 : decide (a ≤ j ∧ j < n) = false := decide_eq_false (by omega)
      rw [e1]
      simp only [Bool.false_eq_true, if_false]
      rw [ih, show a - j = (a - (j + 1)) + 1 by omega]
      rfl
theorem sel_iff (a n k : Nat) : (if (1 : Int) > 0 then decide ((a : Int) ≤ (k : Int)) && decide ((k : Int) < (n : Int)) && (((k : Int) - (a : Int)) % 1 == 0) else false) = decide (a ≤ k ∧ k < n) := by
  rw [if_pos (by decide)]
  have e : (((k : Int) - (a : Int)) % 1 == 0) = true := by rw [Int.emod_one]; rfl
  rw [e, Bool.and_true]
  by_cases h : a ≤ k ∧ k < n
  · rw [decide_eq_true h, decide_eq_true (show (a : Int) ≤ k by omega), decide_eq_true (show (k : Int) < n by omega)]
    rfl
  · rw [decide_eq_false h]
    by_cases h1 : a ≤ k
    · rw [decide_eq_true (show (a : Int) ≤ k by omega), decide_eq_false (show ¬ (k : Int) < n by omega)]
      rfl
    · rw [decide_eq_false (show ¬ (a : Int) ≤ k by omega)]
      rfl
theorem bounds_from {a n : Nat} (ha : a ≤ n) : sliceBounds (some (a : Int)) none none n = ((a : Int), (n : Int), 1) := by
  simp only [sliceBounds, Option.getD_none]
  have h1 : ¬ ((a : Int) < 0) := by omega
  simp only [h1, if_false, show (1 : Int) > 0 by decide, if_true]
  congr 1
  omega
section
variable {prog : Program} {w : World} {A : Around} {E : Value → Shared → Prop} {s : Shared}
set_option maxRecDepth 100000 in
/-- del xs[a:] -/
theorem delItem_from {l sl : Addr} {items : List Value} {n : Nat} {vl vu : Value} {a : Nat} {Q : Unit → Shared → Prop}
    (e : s.heap.get? l = some { cls := .type "list", data := .seq items.toArray n }) (hs : s.heap.IsSliceOf sl vl vu .none) (pl : IsPart vl (some (a : Int))) (pu : IsPart vu none) (ha : a ≤ items.length)
    (hsz : items.length ≤ sizeLine) (h : ∀ f : Array Value → Array Value, f items.toArray = (items.take a).toArray → Q () { s with heap := s.heap.update l (Obj.mapSeq f) }) :
    wpAny (model prog w) A (delItem (.ref l) (.ref sl)) Q E s := by
  have hl : s.heap.IsList l items.toArray := PySem.IsL.isList e
  obtain ⟨os, hos, hcs, hds⟩ := id hs
  have hTs : s.TypeIs (.ref sl) "slice" := ⟨os, hos, hcs⟩
  have hstep : ¬ ((rawPart none == rawInt 0) = true) := Bool.false_ne_true
  unfold delItem
  refine wpAny_holding ?_
  refine wpAny_bind (wpAny_sequenceKey hl.typeIs (by decide) ?_)
  refine wpAny_bind (wpAny_callSpecial?_slot (name := Str.ofString "__delitem__") hl.typeIs PySem.F.slot_list_delitem
    (wpAny_call_entry PySem.F.slot_list_delitem hl.typeIs PySem.F.entry_list_delitem ?_ (PySem.F.args_list_delitem_2 _ _)))
  show wpAny _ _ (Builtin.List.listSubscript? (.ref sl) >>= _) _ _ s
  refine wpAny_bind ?_
  unfold Builtin.List.listSubscript?
  refine wpAny_bind (wpAny_specialOf hTs slice_no_index ?_)
  simp only [Option.isNone_none, if_true]
  refine wpAny_pure ?_
  show wpAny _ _ (typeOf (.ref sl) >>= _) _ _ s
  refine wpAny_bind (wpAny_typeOf hTs ?_)
  first
    | rw [if_neg (by decide)]
    | refine PySem.W.KFB.if_not (by decide) ?_
  rw [listSliceParts_eq]
  refine wpAny_bind (wpAny_bind (wpAny_field hos hds (x := .none) rfl (wpAny_bind (wpAny_listPart .none ?_))))
  rw [if_neg hstep]
  refine wpAny_bind (wpAny_field hos hds (x := vl) rfl (wpAny_bind (wpAny_listPart pl ?_)))
  refine wpAny_bind (wpAny_field hos hds (x := vu) rfl (wpAny_bind (wpAny_listPart pu (wpAny_pure ?_))))
  unfold Builtin.List.listItems
  refine wpAny_bind (wpAny_bind (wpAny_seqItems e rfl (wpAny_pure ?_)))
  have hb := bounds_from (a := a) (n := items.toArray.size) (by rw [List.size_toArray]; exact ha)
  refine wpAny_bind (wpAny_of_eq ((sliceIndices_raw (some (a : Int)) none none items.toArray.size (by simp)).trans (congrArg (pure : Int × Int × Int → Sem (Int × Int × Int)) hb)) ?_)
  refine wpAny_bind (wpAny_rule ?_)
  have hk := fun (f : Nat → Bool) hf => keep_all (a := a) (n := items.length) f hf items 0 (by simp)
  have key : ∀ (f : Array Value → Array Value) (g : List Value) (R : _ → Shared → Prop), f items.toArray = (items.take a).toArray → wpAny (model prog w) A.in1 (ret Value.none) R E { s with heap := s.heap.update l (Obj.mapSeq f) } → wpAny (model prog w) A.in1 (Builtin.List.listUpdate (.ref l) f >>= fun _ => letGo g >>= fun _ => ret .none) R E s := by
    intro f g R hf hr
    refine wpAny_bind (wpAny_updateSeq (hz := by rw [List.size_toArray]; exact hsz) (_hz' := by rw [hf, List.size_toArray, List.length_take]; omega) e rfl ?_)
    exact wpAny_bind (wpAny_letGo hr)
  have hf : (fun xs : Array Value => (List.filterMap _ (xs.toList.zipIdx)).toArray) items.toArray = (items.take a).toArray := congrArg List.toArray (hk _ fun k => sel_iff a items.length k)
  exact key _ _ _ hf (wpAny_pure ⟨.none, rfl, wpAny_pure (h _ hf)⟩)
end
end OWN
namespace OWN
open PySem PySem.Spec PyProof.Rows L2
section
variable {X : Cx}
theorem del_from {pins : List (Addr × Obj)} {s : Shared} {σ : L2.St} {H : Hp} {l sl : Addr} {xs : List V} {a : Int} {vl vu : Value} {Q : Unit → Shared → Prop} (I : Inv X pins σ H s) (hH : H l = some (.lst xs)) (hs : s.heap.IsSliceOf sl vl vu .none) (pl : IsPart vl (some a)) (pu : IsPart vu none) (h0 : 0 ≤ a) (ha : a ≤ xs.length)
    (h : ∀ s', Inv X pins σ (upd H l (.lst (xs.take a.toNat))) s' → Q () s') : wpAny (model X.prog X.w) X.A (delItem (.ref l) (.ref sl)) Q X.xe s := by
  obtain ⟨z, its, n, r, hl, e⟩ := I.lstM hH
  obtain ⟨a', rfl⟩ := Int.eq_ofNat_of_zero_le h0
  simp only [Int.toNat_natCast] at h
  refine delItem_from (a := a') e hs pl pu (by omega) (by omega) fun f hf => h _ ?_
  exact I.lset (its' := its.take a') (t' := s.toks) hH e hf (r.take _) (Nat.le_trans (by rw [List.length_take]; omega) z)
/-- del xs[a:], ys[b:], .. -/
def tDels : List (TE × TE) → L2.St → Hp → (Hp → Prop) → Prop
  | [], _, H, Q => Q H
  | (to, tl) :: r, σ, H, Q => to σ H fun x H1 => tl σ H1 fun y H2 => ∃ (l : Addr) (xs : List V) (i : Int), x = .ref l ∧ y = .int i ∧ H2 l = some (.lst xs) ∧ 0 ≤ i ∧ i ≤ xs.length ∧ tDels r σ (upd H2 l (.lst (xs.take i.toNat))) Q
def sDels (ts : List (TE × TE)) : TS := fun D σ H => tDels ts σ H fun H' => D.nx σ H'
structure PDs (X : Cx) (targets : List Expr) (ts : List (TE × TE)) : Prop where
  run : ∀ (pins : List (Addr × Obj)) (s : Shared) (σ : L2.St) (H : Hp) (Q : Hp → Prop), Inv X pins σ H s → tDels ts σ H Q → wpAny (model X.prog X.w) X.A (deleteEach targets X.env) (fun _ s' => ∃ H', Inv X pins σ H' s' ∧ Q H') X.xe s
theorem pds_nil : PDs X [] [] := ⟨fun pins s σ H Q I h => wpAny_deleteEach_nil ⟨H, I, h⟩⟩
theorem pds_cons {o lo : Expr} {to tl : TE} {p2 tpos : Pos} {rest : List Expr} {ts : List (TE × TE)} (ho : PE X o to) (hl : PE X lo tl) (hr : PDs X rest ts) : PDs X (.Subscript o (.Slice (some lo) none none p2) tpos :: rest) ((to, tl) :: ts) := by
  refine ⟨fun pins s σ H Q I h => ?_⟩
  refine wpAny_deleteEach_cons (wpAny_delete_Subscript (thn (ho.run pins s σ H _ I h) fun u s1 ⟨x, H1, I1, rx, q1⟩ => ?_))
  refine wpAny_Slice ?_
  rw [evalPart_some]
  refine thn (hl.run pins s1 σ H1 _ I1 q1) fun vl s2 ⟨y, H2, I2, ry, l, xs, i, ex, ey, hH, h0, ha, q2⟩ => ?_
  subst ex
  subst ey
  obtain ⟨t, rfl⟩ := (show ∃ t, vl = Value.int i t from ry)
  cases (show u = Value.ref l from rx)
  rw [evalPart_none]
  refine wpAny_pure ?_
  refine wpAny_pure ?_
  have I4 : Inv X pins σ H2 { s2 with heap := s2.heap.push { cls := .type "slice", data := .fields #[Value.int i t, .none, .none] } } := I2.kept (t' := s2.toks) fun b ob q => Heap.get?_push_of_some _ q
  exact del_from I4 hH (Heap.IsSliceOf.new ..) (.int i t) .none h0 ha fun s5 I5 => hr.run pins s5 σ _ Q I5 q2
theorem ps_dels {targets : List Expr} {ts : List (TE × TE)} {pos : Pos} (h : PDs X targets ts) : PS X (.Delete targets pos) (sDels ts) := ⟨fun pins s σ H D I q => wpAny_Delete (thn (h.run pins s σ H _ I q) fun _ s' ⟨H', I', q'⟩ => ⟨σ, H', I', q'⟩)⟩
end
end OWN

namespace X1
open PySem PySem.Spec PyProof.Rows L2
section
variable {X : Cx}
def rSAbs : V → Hp → VK → Prop := fun x H Q => ∃ (a : Addr) (kvs : List (Key × V)) (ks : List Int), x = .ref a ∧ Rd H a (.dK kvs) ∧ kvs.map (·.1) = ks.map Sum.inl ∧ ks.length ≤ 1000 ∧
  ∀ (ys : List Int) (p : Addr), ys.Perm ks → ys.Pairwise (fun i j => i.natAbs ≤ j.natAbs) → H p = none → Q (.ref p) (upd H p (.lst (ys.map V.int)))
def absK (x : Int) : Int := if x < 0 then -x else x
theorem each_ints {us : List Value} {ks : List Int} (h : IntsAre us ks) : PySem.W.EachIs (fun (v : Value) (x : Int) => ∃ t, v = Value.int x t) us ks := by
  induction h with
  | nil => exact .nil
  | cons n t _ ih => exact .cons ⟨t, rfl⟩ ih
theorem vals_each {out : List Value} {ys : List Int} (h : PySem.W.EachIs (fun (v : Value) (x : Int) => ∃ t, v = Value.int x t) out ys) : Vals (ys.map V.int) out := by
  induction h with
  | nil => exact .nil
  | cons r _ ih => exact .cons r ih
theorem sorted_abs_call {pins : List (Addr × Obj)} {s : Shared} {σ : L2.St} {H : Hp} {x : V} {u : Value} {Q : VK} (hcalm : X.calm = true) (hu : X.A.units + 64 < cLine) (I : Inv X pins σ H s) (r : RelV x u) (q : rSAbs x H Q) :
    wpAny (model X.prog X.w) X.A (call (.builtin "sorted") [u] [(Str.ofString "key", .builtin "abs")]) (EP X pins σ Q) X.xe s := by
  obtain ⟨a, kvs, ks, ex, hd, hks, h1000, q⟩ := q
  subst ex
  cases r
  obtain ⟨z, lo, vs, rel, dd⟩ := dk_rd I.hok hd
  obtain ⟨ep, hat⟩ := dd.dictAt
  have hkeys : vs.map (·.1) = ks.map Sum.inl := rel.keys.symm.trans hks
  have hl : vs.length = ks.length := by
    have e := congrArg List.length hkeys
    rw [List.length_map, List.length_map] at e
    exact e
  have h16 : vs.length ≤ sizeLine := by rw [hl, sizeLine_eq]; omega
  refine call_function_entry_kw kind_sorted plain_sorted entry_sorted (PyProof.Rows.ksk_s1 _ _) ?_
  unfold Builtin.«sorted»
  refine wpAny_bind (m := checkCount "sorted" 1 1 _) (wpAny_pure ?_)
  refine wpAny_bind (PySem.W.kdu_collect (A := X.A.in1) (PySem.W.kdl_dict (knd := mixKind X.prog X.w) (kvs := vs) (ep := ep) lo) (I.ok.hd hcalm) hat h16 fun h' tk acc hk hacc => ?_)
  have hal : acc.toList.length = ks.length := by rw [Array.length_toList, hacc.1, hl]
  have hS : IntsAre acc.toList ks := ints_each hal fun j v e => by
    obtain ⟨k, x, e1, e2⟩ := hacc.2 j v (by rw [← Array.getElem?_toList]; exact e)
    have e3 : (vs.map (·.1))[j]? = some k := by rw [List.getElem?_map, e1]; rfl
    rw [hkeys, List.getElem?_map] at e3
    cases e4 : ks[j]? with
    | none => rw [e4] at e3; cases e3
    | some y =>
      rw [e4] at e3
      have e5 : Sum.inl y = k := Option.some.inj e3
      subst e5
      rcases keyIs_shape (show keyIs (Sum.inl y) v = true from e2) with ⟨i, t, ek, ev⟩ | ⟨z, t, ek, ev⟩
      · cases ek
        exact ⟨y, t, rfl, ev⟩
      · cases ek
  have I1 : Inv X pins σ H { s with heap := h', toks := tk } := I.kept hk
  refine wpAny_bind (wpAny_newList ?_ (by rw [hal, sizeLine_eq]; omega))
  have hoL : (h'.push (seqObj "list" acc.toList.toArray 0)).get? h'.objs.size = some (seqObj "list" acc.toList.toArray 0) := Heap.get?_push_size _ rfl
  show wpAny _ _ _ _ _ { s with heap := h'.push (seqObj "list" acc.toList.toArray 0), toks := tk }
  refine wpAny_bind (wpAny_holding (wpAny_call_entry_kw PyProof.Rows.slot_list_sort ⟨_, hoL, rfl⟩ PyProof.Rows.entry_list_sort ?_ (PyProof.Rows.ksk_l1 _ _)))
  rw [PyProof.Rows.ksk_t4]
  have hE := each_ints hS
  have hkl : (ks.map fun x => PyData.int (absK x)).length = acc.toList.length := by rw [List.length_map, hal]
  refine PySem.W.keyH_tree (kz := ks.map fun x => PyData.int (absK x)) (s := { s with heap := h'.push (seqObj "list" acc.toList.toArray 0), toks := tk }) hoL hkl (by rw [hal, sizeLine_eq]; omega) ?_ (PySem.W.Sortable.others fun b => ⟨(fun z => by cases z), (fun xs z => by cases z)⟩) ?_
    (PySem.W.keyH_turns hE fun v x hR hx h tk kp => ?_) fun h3 tk3 out c kp hD ko => ⟨_, rfl, ?_⟩
  · intro d hd d' hd'
    obtain ⟨i, _, rfl⟩ := List.mem_map.mp hd
    obtain ⟨j, _, rfl⟩ := List.mem_map.mp hd'
    simp [PySem.W.alike]
  · intro d hd
    obtain ⟨i, _, rfl⟩ := List.mem_map.mp hd
    have e : X.A.in1.in1.units = X.A.units + 2 := rfl
    rw [e]
    have e2 : (PyData.int (absK i)).depth = 0 := by simp [PyData.depth]
    omega
  · obtain ⟨t, rfl⟩ := hR
    exact PyProof.Rows.call_abs_int fun u tk2 => ⟨h, tk2, rfl, fun _ _ e => e, Reads.int _ _⟩
  · have ke := PySem.W.keyedOut_each (fun x => PyData.int (absK x)) ko hE
    rw [PySem.W.dataLe_int absK] at ke
    have hp : (ks.mergeSort fun a b => decide (absK a ≤ absK b)).Perm ks := List.mergeSort_perm _ _
    have hs : (ks.mergeSort fun a b => decide (absK a ≤ absK b)).Pairwise (fun i j => i.natAbs ≤ j.natAbs) := by
      have p := List.pairwise_mergeSort (le := fun a b : Int => decide (absK a ≤ absK b)) (fun a b c h1 h2 => by
        simp only [decide_eq_true_eq] at h1 h2 ⊢
        omega) (fun a b => by
        simp only [Bool.or_eq_true, decide_eq_true_eq]
        omega) ks
      refine p.imp fun {i j} h => ?_
      have h' := of_decide_eq_true h
      unfold absK at h'
      split at h' <;> split at h' <;> omega
    generalize (ks.mergeSort fun a b => decide (absK a ≤ absK b)) = ys at ke hp hs
    have hlen : (ys.map V.int).length ≤ sizeLine := by
      rw [List.length_map, hp.length_eq, sizeLine_eq]
      omega
    refine wpAny_pure ⟨_, rfl, .ref h'.objs.size, upd H h'.objs.size (.lst (ys.map V.int)), I1.laid (t' := tk3) (fun b u e => ?_) (Nat.le_refl _)
      (show ObjOk X.prog X.w _ _ _ (.lst (ys.map V.int)) from ⟨hlen, out, c, vals_each ke, hD⟩), rfl, q ys _ hp hs (I1.hok.fresh (Nat.le_refl _))⟩
    exact kp b u (Nat.ne_of_lt (Heap.lt_size e)) (Heap.get?_push_of_some _ e)
/-- sorted(e, key=abs), e a dict with int keys -/
def rSAbs1 : List V → Hp → VK → Prop := fun vs H Q => ∃ x, vs = [x] ∧ rSAbs x H Q
def tSAbs (te : TE) : TE := fun σ H Q => tCons te tNil σ H fun vs H1 => rSAbs1 vs H1 Q
theorem pe_sortedAbs {e : Expr} {te : TE} {p p2 pos kpos : Pos} (hcalm : X.calm = true) (hu : X.A.units + 64 < cLine) (hg : Gl X "sorted") (hm : X.mg "sorted" = none) (hga : Gl X "abs") (hma : X.mg "abs" = none) (he : PE X e te)
    (hs : backTo pos (starEach [e] X.env) = (false, eval e X.env) :: backTo pos (starEach [] X.env) := by rfl) (hpl : (backTo pos (starEach [e] X.env)).any (·.1) = false := by rfl)
    (hall : (backToKw pos (keywordEach [⟨some "key", .Name "abs" p2, kpos⟩] X.env)).all (·.1.isSome) = true := by rfl) (hnone : (backToKw pos (keywordEach [⟨some "key", .Name "abs" p2, kpos⟩] X.env)).any (·.1.isNone) = false := by rfl)
    (hks : (backToKw pos (keywordEach [⟨some "key", .Name "abs" p2, kpos⟩] X.env)).filterMap (·.1) = [Str.ofString "key"] := by rfl)
    (hst : starEach (e :: []) X.env = (false, eval e X.env) :: starEach [] X.env := by rfl) :
    PE X (.Call (.Name "sorted" p) [e] [⟨some "key", .Name "abs" p2, kpos⟩] pos) (tSAbs te) := by
  have ha : PA X [e] (tCons te tNil) := pa_cons he pa_nil hst
  refine ⟨fun pins s σ H Q I h => ?_⟩
  refine wpAny_Call_Name_kw (ld_blt I hg hm (by decide +kernel : bootBuiltins "sorted" = some (.builtin "sorted")) ?_ (by decide) (by decide))
  refine PyProof.Rows.callWith_kw (thn (ha.run pos pins s σ H _ I h) fun us s1 ⟨vs, H1, I1, r1, x, ev, q1⟩ => ?_) hs hpl hall hnone
  subst ev
  obtain ⟨u, rfl, ru⟩ := vals1 r1
  show wpAny _ _ (evalAll ((do let v ← eval (.Name "abs" p2) X.env; standAt pos; pure v) :: [])) _ _ s1
  refine wpAny_evalAll_cons (wpAny_bind (ld_blt I1 hga hma (by decide +kernel : bootBuiltins "abs" = some (.builtin "abs")) (wpAny_bind (wpAny_standAt (wpAny_pure (wpAny_evalAll_nil ?_)))) (by decide) (by decide)))
  rw [hks]
  exact sorted_abs_call hcalm hu I1 ru q1
end
end X1

namespace LK
open PySem PySem.Spec PyProof.Rows L2 LamX
/-- a lambda of one name x that reads one captured name d -/
structure KS (sc scope : Scope) (x d : Str) : Prop where
  kind : scope.kind = .function
  co : scope.isCoroutine = false
  gen : scope.isGenerator = false
  nocell : ∀ y ∈ scope.names, y.2 ≠ .cell
  par : scope.names.lookup x = some .local
  cap : scope.names.lookup d = some .free
  free : ∀ y ∈ scope.names, y.2 = .free → sc.names.lookup y.1 = some .cell ∨ sc.names.lookup y.1 = some .free
def ksB (sc scope : Scope) (x d : Str) : Bool :=
  decide (scope.kind = .function) && !scope.isCoroutine && !scope.isGenerator && scope.names.all (fun y => !decide (y.2 = .cell)) && decide (scope.names.lookup x = some .local) && decide (scope.names.lookup d = some .free) &&
    scope.names.all (fun y => !decide (y.2 = .free) || decide (sc.names.lookup y.1 = some .cell) || decide (sc.names.lookup y.1 = some .free))
theorem ks_by {sc scope : Scope} {x d : Str} (h : ksB sc scope x d = true) : KS sc scope x d := by
  unfold ksB at h
  simp only [Bool.and_eq_true, Bool.or_eq_true, Bool.not_eq_true', decide_eq_true_eq, decide_eq_false_iff_not, List.all_eq_true] at h
  obtain ⟨⟨⟨⟨⟨⟨h1, h2⟩, h3⟩, h4⟩, h5⟩, h6⟩, h7⟩ := h
  refine ⟨h1, h2, h3, h4, h5, h6, fun y hy e => ?_⟩
  rcases h7 y hy with (z | z) | z
  · exact absurd e z
  · exact .inl z
  · exact .inr z
section
variable {X : Cx} {pins : List (Addr × Obj)} {σ : L2.St} {H : Hp} {s : Shared}
/-- the key of k: the pair that d has for it -/
theorem key_turn {scope : Scope} {x d q : Str} {params : Arguments} {f c' D t : Addr} {pm ctv : Value} {p1 p2 p3 : Pos} {i : Nat} {kvs : List (Key × V)} {k a b : Int} {tk' : Tok} {A : Around} (I : Inv X pins σ H s) (L : KS X.env.scope scope x d)
    (hf : s.heap.get? f = some (PySem.W.kla_obj "<lambda>" q params (.Subscript (.Name d p1) (.Name x p2) p3) scope (cloFrom X.env.cells scope.names []) pm c' ctv)) (hc : H c' = some (CodeO c' q))
    (hbind : ∀ u : Value, bindArgs (PySem.W.kla_fn "<lambda>" q params (.Subscript (.Name d p1) (.Name x p2) p3) scope (cloFrom X.env.cells scope.names []) pm (.ref c') ctv) ⟨[u], []⟩ = pure [(x, u)])
    (hN : X.N[i]? = some d) (hσ : σ[i]? = some (some (.ref D))) (hD : Rd H D (.dK kvs)) (hk : valV kvs (.inl k) = some (.ref t)) (ht : H t = some (.tup [.int a, .int b])) (hA : A.depth < recursionLimit)
    (hs : NoSl (.Name x p2)) (hdx : (x == ("__debug__" : Str)) = false) (hdd : (d == ("__debug__" : Str)) = false) (hdc : (d == ("__classdict__" : Str)) = false) (h : Heap) (tk : Nat) (kp : ∀ b o, s.heap.get? b = some o → h.get? b = some o) :
    wpAny (model X.prog X.w) A (call (.ref f) [.int k tk']) (PySem.W.KeyPure (.tuple [.int a, .int b]) { s with heap := h, toks := tk }) (fun _ _ => False) { s with heap := h, toks := tk } := by
  have hfree : ∀ y ∈ scope.names, y.2 = .free → ∃ c, X.env.cells.lookup y.1 = some c := fun y hy e => (L.free y hy e).elim (fun z => I.ok.has _ (.inl z)) fun z => I.ok.has _ (.inr z)
  have hdm : (d, NameKind.free) ∈ scope.names := PySem.mem_of_lookup L.cap
  have hvis : Vis X.env.scope d := (L.free _ hdm rfl).elim (fun k => .inr (.inl k)) (fun k => .inr (.inr k))
  obtain ⟨m, hn, hl⟩ := I.loc
  obtain ⟨u, ru, lk⟩ := hl i d _ hN hσ hvis
  obtain rfl : u = Value.ref D := ru
  have hcell : ∃ c, X.env.cells.lookup d = some c ∧ s.heap.IsCell c (some (.ref D)) := by
    rcases lk with ⟨k1, _⟩ | ⟨_, z⟩
    · have k1 : X.env.scope.names.lookup d = some .local := k1
      rcases L.free _ hdm rfl with k2 | k2 <;> rw [show X.env.scope.names.lookup d = _ from k2] at k1 <;> cases k1
    · exact z
  obtain ⟨c, hcc, oc', hoc', hdc'⟩ := hcell
  have hcl : (cloFrom X.env.cells scope.names []).lookup d = some c := NdefX.clo_has hfree hdm hcc
  obtain ⟨⟨oc, vs, tq, hoc, hdo, hvc⟩, _, _⟩ := I.hok c' _ hc
  refine wpAny_call (codeAny_mono (R := fun r s' => ∃ v, r = .ok (.ret v) ∧ PySem.W.KeyPure (.tuple [.int a, .int b]) { s with heap := h, toks := tk } v s') (PySem.W.kla_callFunE hA (kp _ _ hf) rfl L.co L.gen rfl ⟨c', oc, vs, tq, rfl, kp _ _ hoc, hdo, hvc⟩ ?_) fun r s' hq => ?_)
  · rw [hbind]
    have lim : h.NoLimit := (show s.heap.NoLimit from I.nolimit).keeps kp
    refine wpAny_pure (wpAny_newFunctionEnv L.nocell (fun y hy => by rw [List.mem_singleton.mp hy]; exact L.par) (fun h₁ hns hsb => ⟨lim.fresh _ hsb, ?_⟩) L.kind)
    have kp1 : ∀ b o, h.get? b = some o → h₁.get? b = some o := fun b o e => hsb.extBut b o (Nat.ne_of_lt (Heap.lt_size e)) (Heap.get?_push_of_some _ e)
    have kp2 : ∀ b o, s.heap.get? b = some o → h₁.get? b = some o := fun b o e => kp1 b o (kp b o e)
    have ok2 : HOk X.prog X.w H h₁ := I.hok.kept kp2
    refine PySem.W.kla_codeExpr (subD_of PySem.F.slot_dict_getitem.lookup hs ?_)
    refine wpAny_Name (wpAny_loadName_free L.kind L.cap hcl ⟨_, kp2 _ _ hoc', hdc'⟩ ?_ hdc) hdd
    refine wpAny_Name (wpAny_loadName_local (v := .int k tk') L.kind L.par hns (by simp) ?_) hdx
    obtain ⟨_, _, vs2, rel, dd⟩ := dk_rd ok2 hD
    obtain ⟨w', hw, rw'⟩ := RelO.some_of (v := .ref t) (o := valueAt vs2 (.inl k)) (by rw [← hk]; exact rel.val _)
    obtain rfl : w' = Value.ref t := rw'
    refine ⟨dd.typeIs, wpAny_getItem_of (kV_is (k := .inl k) ⟨tk', rfl⟩) dd.mapOf hw ?_⟩
    refine ⟨_, rfl, h₁, _, rfl, kp1, ?_⟩
    obtain ⟨_, its, rv, o, ho, hcls, n, hdat⟩ := ok2 t _ ht
    cases rv with
    | cons r1 rr =>
      cases rr with
      | cons r2 rr =>
        cases rr
        obtain ⟨t1, rfl⟩ := r1
        obtain ⟨t2, rfl⟩ := r2
        exact .tuple ho hcls (by first | exact hdat | exact hdat.2 | exact hdat.1) (.cons (as := []) (bs := []) (.int _ _) (.cons (as := []) (bs := []) (.int _ _) .nil))
  · obtain ⟨v, rfl, hq⟩ := hq
    exact hq
/-- sorted(xs, key=fv), xs a list or a tuple of ints -/
theorem sorted_call {a : Addr} {T : String} {o : Obj} {its : List Value} {n : Nat} {ks : List Int} {fv : Value} {Q : VK} (enc : Int → PyData) (hu : X.A.units + 64 < cLine) (I : Inv X pins σ H s) (hT : T = "list" ∨ T = "tuple") (ho : s.heap.get? a = some o) (hc : o.cls = .type T) (hd : o.data = .seq its.toArray n)
    (hi : IntsAre its ks) (h1000 : ks.length ≤ 1000) (hal : PySem.W.AllAlike (ks.map enc)) (hsk : PySem.W.Sortable (ks.map enc)) (hdep : ∀ x ∈ ks, (enc x).depth ≤ 1) (htree : ∀ x : Addr, Builtin.«list.sort» ⟨[.ref x], [(Str.ofString "key", fv)]⟩ = PyProof.Rows.ksk_tree x fv false)
    (turn : ∀ (x : Int) (t : Tok), x ∈ ks → ∀ (h : Heap) (tk : Nat), (∀ b o, s.heap.get? b = some o → h.get? b = some o) → wpAny (model X.prog X.w) X.A.in1.in1 (call fv [.int x t]) (PySem.W.KeyPure (enc x) { s with heap := h, toks := tk }) (fun _ _ => False) { s with heap := h, toks := tk })
    (q : ∀ (p : Addr), H p = none → Q (.ref p) (upd H p (.lst ((ks.mergeSort (PySem.W.dataLe false enc)).map V.int)))) :
    wpAny (model X.prog X.w) X.A (call (.builtin "sorted") [.ref a] [(Str.ofString "key", fv)]) (EP X pins σ Q) X.xe s := by
  have hl : its.length = ks.length := hi.length
  refine call_function_entry_kw kind_sorted plain_sorted entry_sorted (PyProof.Rows.ksk_s1 _ _) ?_
  unfold Builtin.«sorted»
  refine wpAny_bind (m := checkCount "sorted" 1 1 _) (wpAny_pure ?_)
  refine wpAny_bind (wpAny_collect_seq (A := X.A.in1) a hT ho hc hd (fun h' hk => ?_) (by rw [List.size_toArray, hl, sizeLine_eq]; omega))
  have I1 : Inv X pins σ H { s with heap := h' } := I.kept (t' := s.toks) hk
  rw [List.toList_toArray]
  refine wpAny_bind (wpAny_newList ?_ (by rw [hl, sizeLine_eq]; omega))
  have hoL : (h'.push (seqObj "list" its.toArray 0)).get? h'.objs.size = some (seqObj "list" its.toArray 0) := Heap.get?_push_size _ rfl
  show wpAny _ _ _ _ _ { s with heap := h'.push (seqObj "list" its.toArray 0) }
  refine wpAny_bind (wpAny_holding (wpAny_call_entry_kw PyProof.Rows.slot_list_sort ⟨_, hoL, rfl⟩ PyProof.Rows.entry_list_sort ?_ (PyProof.Rows.ksk_l1 _ _)))
  rw [htree]
  have hE := X1.each_ints hi
  refine PySem.W.keyH_tree (kz := ks.map enc) (s := { s with heap := h'.push (seqObj "list" its.toArray 0) }) hoL (by rw [List.length_map, hl]) (by rw [hl, sizeLine_eq]; omega) hal hsk ?_
    (PySem.W.keyH_turns hE fun v x hR hx h tk kp => ?_) fun h3 tk3 out c kp hD ko => ⟨_, rfl, ?_⟩
  · intro d hd
    obtain ⟨i, hi', rfl⟩ := List.mem_map.mp hd
    have e : X.A.in1.in1.units = X.A.units + 2 := rfl
    have e2 := hdep i hi'
    rw [e]
    omega
  · obtain ⟨t, rfl⟩ := hR
    exact turn x t hx h tk fun b o e => kp b o (Nat.ne_of_lt (Heap.lt_size (hk b o e))) (Heap.get?_push_of_some _ (hk b o e))
  · have ke := PySem.W.keyedOut_each enc ko hE
    have hp : (ks.mergeSort (PySem.W.dataLe false enc)).Perm ks := List.mergeSort_perm _ _
    generalize (ks.mergeSort (PySem.W.dataLe false enc)) = ys at ke hp q
    have hlen : (ys.map V.int).length ≤ sizeLine := by
      rw [List.length_map, hp.length_eq, sizeLine_eq]
      omega
    refine wpAny_pure ⟨_, rfl, .ref h'.objs.size, upd H h'.objs.size (.lst (ys.map V.int)), I1.laid (t' := tk3) (fun b u e => ?_) (Nat.le_refl _)
      (show ObjOk X.prog X.w _ _ _ (.lst (ys.map V.int)) from ⟨hlen, out, c, X1.vals_each ke, hD⟩), rfl, q _ (I1.hok.fresh (Nat.le_refl _))⟩
    exact kp b u (Nat.ne_of_lt (Heap.lt_size e)) (Heap.get?_push_of_some _ e)
end
/-- a list or a tuple of ints -/
def SqI (K : PySem.W.Frag) (H : Hp) (a : Addr) (ks : List Int) : Prop := SqL K H a (ks.map V.int) ∨ SqT K H a (ks.map V.int)
theorem sqI_at {X : Cx} {pins : List (Addr × Obj)} {σ : L2.St} {H : Hp} {s : Shared} {a : Addr} {ks : List Int} (I : Inv X pins σ H s) (h : SqI X.K H a ks) : ∃ (T : String) (o : Obj) (its : List Value) (n : Nat), (T = "list" ∨ T = "tuple") ∧ s.heap.get? a = some o ∧ o.cls = .type T ∧ o.data = .seq its.toArray n ∧ IntsAre its ks := by
  rcases h with h | h
  · obtain ⟨its, rv, ⟨o, n, e, h1, h2, h3⟩, _⟩ := I.list h
    exact ⟨"list", o, its, n, .inl rfl, e, h1, h3, rv.ints⟩
  · obtain ⟨its, rv, p, _⟩ := I.tuple h
    obtain ⟨o, e, h1, h2⟩ := p
    exact ⟨"tuple", o, its, _, .inr rfl, e, h1, (by first | exact h2.choose_spec | exact h2.2.choose_spec), rv.ints⟩
/-- sorted(xs, key=abs) -/
def rAbsQ (K : PySem.W.Frag) : List V → Hp → VK → Prop := fun vs H1 Q => ∃ (a : Addr) (ks : List Int), vs = [.ref a] ∧ SqI K H1 a ks ∧ ks.length ≤ 1000 ∧ ∀ p, H1 p = none → Q (.ref p) (upd H1 p (.lst ((ks.mergeSort fun x y => decide (X1.absK x ≤ X1.absK y)).map V.int)))
def tAbsQ (K : PySem.W.Frag) (te : TE) : TE := fun σ H Q => tCons te tNil σ H fun vs H1 => rAbsQ K vs H1 Q
theorem pe_sortedAbsQ {X : Cx} {e : Expr} {te : TE} {p p2 pos kpos : Pos} (hu : X.A.units + 64 < cLine) (hg : Gl X "sorted") (hm : X.mg "sorted" = none) (hga : Gl X "abs") (hma : X.mg "abs" = none) (he : PE X e te)
    (hs : backTo pos (starEach [e] X.env) = (false, eval e X.env) :: backTo pos (starEach [] X.env) := by rfl) (hpl : (backTo pos (starEach [e] X.env)).any (·.1) = false := by rfl)
    (hall : (backToKw pos (keywordEach [⟨some "key", .Name "abs" p2, kpos⟩] X.env)).all (·.1.isSome) = true := by rfl) (hnone : (backToKw pos (keywordEach [⟨some "key", .Name "abs" p2, kpos⟩] X.env)).any (·.1.isNone) = false := by rfl)
    (hks : (backToKw pos (keywordEach [⟨some "key", .Name "abs" p2, kpos⟩] X.env)).filterMap (·.1) = [Str.ofString "key"] := by rfl)
    (hst : starEach (e :: []) X.env = (false, eval e X.env) :: starEach [] X.env := by rfl) :
    PE X (.Call (.Name "sorted" p) [e] [⟨some "key", .Name "abs" p2, kpos⟩] pos) (tAbsQ X.K te) := by
  have ha : PA X [e] (tCons te tNil) := pa_cons he pa_nil hst
  refine ⟨fun pins s σ H Q I h => ?_⟩
  refine wpAny_Call_Name_kw (ld_blt I hg hm (by decide +kernel : bootBuiltins "sorted" = some (.builtin "sorted")) ?_ (by decide) (by decide))
  refine PyProof.Rows.callWith_kw (thn (ha.run pos pins s σ H _ I h) fun us s1 ⟨vs, H1, I1, r1, a, ks, ev, hq, h1000, q⟩ => ?_) hs hpl hall hnone
  · subst ev
    obtain ⟨u, rfl, ru⟩ := vals1 r1
    obtain rfl : u = Value.ref a := ru
    show wpAny _ _ (evalAll ((do let v ← eval (.Name "abs" p2) X.env; standAt pos; pure v) :: [])) _ _ s1
    refine wpAny_evalAll_cons (wpAny_bind (ld_blt I1 hga hma (by decide +kernel : bootBuiltins "abs" = some (.builtin "abs")) (wpAny_bind (wpAny_standAt (wpAny_pure (wpAny_evalAll_nil ?_)))) (by decide) (by decide)))
    rw [hks]
    obtain ⟨T, o, its, n, hT, ho, hc, hd, hi⟩ := sqI_at I1 hq
    refine sorted_call (fun x => .int (X1.absK x)) hu I1 hT ho hc hd hi h1000 ?_ (PySem.W.Sortable.others fun b => ⟨(fun z => by cases z), (fun xs z => by cases z)⟩) (fun x _ => by simp [PyData.depth]) (fun x => PyProof.Rows.ksk_t4 _ _) (fun x t _ h tk kp => PyProof.Rows.call_abs_int fun u tk2 => ⟨h, tk2, rfl, fun _ _ e => e, Reads.int _ _⟩) fun p hp => ?_
    · intro d hd d' hd'
      obtain ⟨i, _, rfl⟩ := List.mem_map.mp hd
      obtain ⟨j, _, rfl⟩ := List.mem_map.mp hd'
      simp [PySem.W.alike]
    · rw [PySem.W.dataLe_int X1.absK]
      exact q p hp
/-- sorted(xs, key=lambda x: d[x]), d a dict of pairs of ints: sorted by these, in new lists; the lambda's code object may be new -/
def pairLe (rk : Int → Int × Int) (p q : Int) : Bool := decide ((rk p).1 < (rk q).1 ∨ ((rk p).1 = (rk q).1 ∧ (rk p).2 ≤ (rk q).2))
def rLamQ (K : PySem.W.Frag) (T : List (Addr × Str)) (i : Nat) : L2.St → List V → Hp → VK → Prop := fun σ vs H1 Q => ∃ (a D : Addr) (ks : List Int) (kvs : List (Key × V)) (rk : Int → Int × Int), vs = [.ref a] ∧ SqI K H1 a ks ∧ ks.length ≤ 1000 ∧ σ[i]? = some (some (.ref D)) ∧ H1 D = some (.dK kvs) ∧
  (∀ k ∈ ks, ∃ t, valV kvs (.inl k) = some (.ref t) ∧ H1 t = some (.tup [.int (rk k).1, .int (rk k).2])) ∧ Tabs T H1 ∧ ∀ H2 p, ExtN H1 H2 → Tabs T H2 → H2 p = none → Q (.ref p) (upd H2 p (.lst ((ks.mergeSort (pairLe rk)).map V.int)))
def tLamQ (K : PySem.W.Frag) (T : List (Addr × Str)) (i : Nat) (te : TE) : TE := fun σ H Q => tCons te tNil σ H fun vs H1 => rLamQ K T i σ vs H1 Q
theorem pe_sortedLam {X : Cx} {e : Expr} {te : TE} {p p1 p2 p3 pos kpos lpos : Pos} {x d : Str} {scope : Scope} {params : Arguments} {i : Nat} {T : List (Addr × Str)} {c P : Addr} {kk : Nat} (hr : Room (kk + 1) X.A) (hg : Gl X "sorted") (hm : X.mg "sorted" = none) (he : PE X e te)
    (TB : LamX.TabB X.base X.mg c P) (hcode : X.env.code = .ref c) (hmT : (P, X.env.qual ++ "<lambda>") ∈ T) (hu : ∀ p ∈ T, p.1 = P → p.2 = X.env.qual ++ "<lambda>") (L : KS X.env.scope scope x d) (hdef : defaultsOf params X.env = ([], []))
    (hbind : ∀ (q : Str) (cl : List (Str × Addr)) (pm cv ctv u : Value), bindArgs (PySem.W.kla_fn "<lambda>" q params (.Subscript (.Name d p1) (.Name x p2) p3) scope cl pm cv ctv) ⟨[u], []⟩ = pure [(x, u)]) (hN : X.N[i]? = some d)
    (hnl : NoSl (.Name x p2) := by exact fun _ _ => rfl) (hdx : (x == ("__debug__" : Str)) = false := by decide) (hdd : (d == ("__debug__" : Str)) = false := by decide) (hdc : (d == ("__classdict__" : Str)) = false := by decide)
    (hs : backTo pos (starEach [e] X.env) = (false, eval e X.env) :: backTo pos (starEach [] X.env) := by rfl) (hpl : (backTo pos (starEach [e] X.env)).any (·.1) = false := by rfl)
    (hall : (backToKw pos (keywordEach [⟨some "key", .Lambda params (.Subscript (.Name d p1) (.Name x p2) p3) scope lpos, kpos⟩] X.env)).all (·.1.isSome) = true := by rfl) (hnone : (backToKw pos (keywordEach [⟨some "key", .Lambda params (.Subscript (.Name d p1) (.Name x p2) p3) scope lpos, kpos⟩] X.env)).any (·.1.isNone) = false := by rfl)
    (hks : (backToKw pos (keywordEach [⟨some "key", .Lambda params (.Subscript (.Name d p1) (.Name x p2) p3) scope lpos, kpos⟩] X.env)).filterMap (·.1) = [Str.ofString "key"] := by rfl)
    (hst : starEach (e :: []) X.env = (false, eval e X.env) :: starEach [] X.env := by rfl) :
    PE X (.Call (.Name "sorted" p) [e] [⟨some "key", .Lambda params (.Subscript (.Name d p1) (.Name x p2) p3) scope lpos, kpos⟩] pos) (tLamQ X.K T i te) := by
  have ha : PA X [e] (tCons te tNil) := pa_cons he pa_nil hst
  refine ⟨fun pins s σ H Q I h => ?_⟩
  refine wpAny_Call_Name_kw (ld_blt I hg hm (by decide +kernel : bootBuiltins "sorted" = some (.builtin "sorted")) ?_ (by decide) (by decide))
  refine PyProof.Rows.callWith_kw (thn (ha.run pos pins s σ H _ I h) fun us s1 ⟨vs, H1, I1, r1, a, D, ks, kvs, rk, ev, hq, h1000, hσ, hD, hkeys, hT1, q⟩ => ?_) hs hpl hall hnone
  subst ev
  obtain ⟨u, rfl, ru⟩ := vals1 r1
  obtain rfl : u = Value.ref a := ru
  show wpAny _ _ (evalAll ((do let v ← eval (.Lambda params (.Subscript (.Name d p1) (.Name x p2) p3) scope lpos) X.env; standAt pos; pure v) :: [])) _ _ s1
  have hfree : ∀ y ∈ scope.names, y.2 = .free → ∃ c, X.env.cells.lookup y.1 = some c := fun y hy e => (L.free y hy e).elim (fun z => I.ok.has _ (.inl z)) fun z => I.ok.has _ (.inr z)
  refine wpAny_evalAll_cons (wpAny_bind (lam_make2 I1 TB hcode hmT hu hT1 hdef hfree fun f c' pm ctv H2 s2 I2 eN T2 hf hfn hfr hco => wpAny_bind (wpAny_standAt (wpAny_pure (wpAny_evalAll_nil ?_)))))
  rw [hks]
  have tupN : ∀ {b : Addr} {xs : List V}, H1 b = some (.tup xs) → H2 b = some (.tup xs) := fun e => eN _ _ e (fun ps z => by cases z)
  have hq2 : SqI X.K H2 a ks := by
    rcases hq with z | z
    · rcases z with (z | ⟨o, z⟩) | z
      · exact .inl (.inl (.inl (eN _ _ z fun ps z => by cases z)))
      · exact .inl (.inl (.inr ⟨o, eN _ _ z fun ps z => by cases z⟩))
      · exact .inl (.inr z)
    · rcases z with (z | ⟨o, z⟩) | z
      · exact .inr (.inl (.inl (eN _ _ z fun ps z => by cases z)))
      · exact .inr (.inl (.inr ⟨o, eN _ _ z fun ps z => by cases z⟩))
      · exact .inr (.inr z)
  obtain ⟨TT, o, its, n, hTT, ho, hc, hd, hi⟩ := sqI_at I2 hq2
  have hu64 : X.A.units + 64 < cLine := by have := hr.un; omega
  have hdep : X.A.in1.in1.depth < recursionLimit := by
    have := hr.dp
    show X.A.depth < _
    omega
  refine sorted_call (fun y => .tuple [.int (rk y).1, .int (rk y).2]) hu64 I2 hTT ho hc hd hi h1000 (PySem.W.AllAlike.of fun _ _ => by simp [PySem.W.alike, PySem.W.alikeAll]) (PySem.W.Sortable.tuples fun _ => ⟨_, _, rfl⟩) (fun y _ => by simp [PyData.depth, PyData.depthAll]) (fun y => PyProof.Rows.ksk_t1 _ _) (fun y t hy h tk kp => ?_) fun p hp => ?_
  · obtain ⟨t0, e1, e2⟩ := hkeys y hy
    exact key_turn I2 L hf hco (fun u => hbind _ _ _ _ _ u) hN hσ (.inl (eN _ _ hD fun ps z => by cases z)) e1 (tupN e2) hdep hnl hdx hdd hdc h tk kp
  · rw [PySem.W.dataLe_ii (fun y => (rk y).1) (fun y => (rk y).2)]
    exact q H2 p eN T2 hp
theorem op_isNotF {X : Cx} : OpR X (compareOp .IsNot) (fun x y H Q => ∃ b : Bool, y = .bl b ∧ ((x = .non ∧ Q (.bl true) H) ∨ ∃ a : Bool, x = .bl a ∧ Q (.bl (!decide (a = b))) H)) := by
  intro pins s σ H x y u v Q I rx ry h
  obtain ⟨b, rfl, h | ⟨a, rfl, h⟩⟩ := h
  · obtain ⟨rfl, h⟩ := h
    cases (show u = Value.none from rx)
    cases (show v = Value.bool b from ry)
    exact wpAny_isNot_other rfl (fun z => by cases z) ⟨.bl true, H, I, rfl, h⟩
  · exact op_isnot_bl pins s σ H (.bl a) (.bl b) u v Q I rx ry ⟨a, b, rfl, rfl, h⟩
end LK
namespace L2
open PySem PySem.Spec PyProof.Rows
/-- a def whose code object stands at c -/
structure FunT (K : PySem.W.Frag) (x qual : Str) (st : Stmt) (f : Addr) (fd : FuncData) (c : Addr) : Prop where
  ex : ∃ (oc : Value) (od : Option Addr) (kV doc pm : Value) (an : Option Addr) (ct : Value) (osl : Array (Option Value)),
    fd = PySem.W.fnOf x qual (defArgs st) (defBody st) (defScope st) .none kV doc pm an (.ref c) ct ∧ K.lookup f = some ⟨oc, od, .func fd, osl⟩ ∧ PySem.W.codeIn K (.ref c) qual = true
theorem FunT.okN {P : Program} {w : World} {K : PySem.W.Frag} {mg : Str → Option Value} {base : Heap} {x qual : Str} {st : Stmt} {f : Addr} {fd : FuncData} {N ps : List Str} {k : Nat} {sp : Sp} {c : Addr} (F : FunT K x qual st f fd c) (S : FnScope N ps (defScope st)) (len : ∀ vs H Q E, sp vs H Q E → vs.length = ps.length)
    (b : ∀ (A : Around) (outer : List Env) (s : Shared) (H : Hp) (vs : List V) (Q : VK) (E : XK), Room k (A.deeper (envOfC qual (defScope st) s.heap.objs.size f (.ref c))) → sp vs H Q E → ∃ t, PSs (cxOf (L2N.CX P w) P w K mg base N qual (defScope st) f (.ref c) A outer s H E) (defBody st) t ∧ t { nx := fun _ H' => Q .non H', rt := Q } (start N vs) H) :
    FnOk P w K mg base (L2N.CX P w) (k + 1) f fd ps sp := by
  obtain ⟨_, _, _, _, _, _, _, _, rfl, place, code⟩ := F.ex
  exact fn_of place code S len fun A outer s H vs Q E room want => b A outer s H vs Q E room want
theorem FunT.ok {P : Program} {w : World} {K : PySem.W.Frag} {mg : Str → Option Value} {base : Heap} {x qual : Str} {st : Stmt} {f : Addr} {fd : FuncData} {N ps : List Str} {k : Nat} {sp : Sp} {c : Addr} (F : FunT K x qual st f fd c) (S : FnScope N ps (defScope st)) (len : ∀ vs H Q E, sp vs H Q E → vs.length = ps.length)
    (b : ∀ (A : Around) (outer : List Env) (s : Shared) (H : Hp) (vs : List V) (Q : VK) (E : XK), Room k (A.deeper (envOfC qual (defScope st) s.heap.objs.size f (.ref c))) → sp vs H Q E → ∃ t, PSs (cxOf CX0 P w K mg base N qual (defScope st) f (.ref c) A outer s H E).nox (defBody st) t ∧ t { nx := fun _ H' => Q .non H', rt := Q } (start N vs) H) :
    FnOk P w K mg base CX0 (k + 1) f fd ps sp := by
  obtain ⟨_, _, _, _, _, _, _, _, rfl, place, code⟩ := F.ex
  refine fn_of place code S len fun A outer s H vs Q E room want => ?_
  obtain ⟨t, h, q⟩ := b A outer s H vs Q E room want
  exact ⟨t, h.nox, q⟩
end L2

namespace ZL
open PySem PySem.Spec PyProof.Rows L2
theorem nolen_zip : typeLookup (.type "zip") "__len__" = pure none := by rw [typeLookup_type, builtinLookup_eq_fast]; kernel_rfl
theorem nohint_zip : typeLookup (.type "zip") "__length_hint__" = pure none := by rw [typeLookup_type, builtinLookup_eq_fast]; kernel_rfl
/-- the zip at z, behind i items -/
def ZFree (h : Heap) (z TI TO : Addr) : Prop := IsZip h z TI TO .none ∧ ∃ a b, IsPair h TO a b
def ZHeld (h : Heap) (z TI TO : Addr) : Prop := ∃ T f oT, IsZipHeld h z TI TO T f ∧ h.get? T = some oT ∧ T ≠ z
structure ZAt (h : Heap) (z TI TO i1 i2 l1 l2 : Addr) (xs ys : Array Value) (i : Nat) : Prop where
  zz : ZFree h z TI TO ∨ ZHeld h z TI TO
  ti : IsPair h TI (.ref i1) (.ref i2)
  h1 : h.IsListIter i1 l1 i
  h2 : h.IsListIter i2 l2 i
  hl1 : h.IsList l1 xs
  hl2 : h.IsList l2 ys
theorem ZAt.keep {h h' : Heap} {z TI TO i1 i2 l1 l2 S : Addr} {xs ys : Array Value} {i : Nat} (a : ZAt h z TI TO i1 i2 l1 l2 xs ys i) (nS : ∀ c, c = z ∨ c = TI ∨ c = TO ∨ c = i1 ∨ c = i2 ∨ c = l1 ∨ c = l2 → c ≠ S)
    (k : ∀ b o, b ≠ S → h.get? b = some o → h'.get? b = some o) (kS : ∀ o, h.get? S = some o → ∃ o', h'.get? S = some o') : ZAt h' z TI TO i1 i2 l1 l2 xs ys i := by
  have n := nS
  refine ⟨?_, k _ _ (n _ (by simp)) a.ti, a.h1.at fun o e => k _ o (n _ (by simp)) e, a.h2.at fun o e => k _ o (n _ (by simp)) e, a.hl1.at fun o e => k _ o (n _ (by simp)) e, a.hl2.at fun o e => k _ o (n _ (by simp)) e⟩
  rcases a.zz with ⟨h1, x, y, h2⟩ | ⟨T, f, oT, h1, h2, h3⟩
  · exact .inl ⟨k _ _ (n _ (by simp)) h1, x, y, k _ _ (n _ (by simp)) h2⟩
  · by_cases e : T = S
    · subst e
      obtain ⟨o', ho'⟩ := kS _ h2
      exact .inr ⟨T, f, o', k _ _ (n _ (by simp)) h1, ho', h3⟩
    · exact .inr ⟨T, f, oT, k _ _ (n _ (by simp)) h1, k _ _ e h2, h3⟩
/-- the tuples made so far: at Ts, from n0 on, ascending -/
structure Made (h : Heap) (n0 : Nat) (xs ys : Array Value) (i : Nat) (Ts : List Addr) : Prop where
  len : Ts.length = i
  asc : Ts.Pairwise (· < ·)
  lo : ∀ t ∈ Ts, n0 ≤ t ∧ t < h.objs.size
  tup : ∀ (j : Nat) (t : Addr) (x y : Value), Ts[j]? = some t → xs[j]? = some x → ys[j]? = some y → IsPair h t x y
section
variable {prog : Program} {w : World} {A : Around} {E : Value → Shared → Prop}
theorem next_item {s : Shared} {z TI TO i1 i2 l1 l2 : Addr} {xs ys : Array Value} {i : Nat} {x y : Value} {Q : Option Value → Shared → Prop} (D : ZipApart z TI TO i1 i2 l1 l2) (a : ZAt s.heap z TI TO i1 i2 l1 l2 xs ys i) (hx : xs[i]? = some x) (hy : ys[i]? = some y)
    (hQ : ∀ h', ZAt h' z TI TO i1 i2 l1 l2 xs ys (i + 1) → IsPair h' s.heap.objs.size x y → h'.objs.size = s.heap.objs.size + 1 → (∀ c o, c ≠ z → c ≠ TO → c ≠ i1 → c ≠ i2 → s.heap.get? c = some o → h'.get? c = some o) → Q (some (.ref s.heap.objs.size)) { s with heap := h' }) :
    wpAny (model prog w) A (pyNext (.ref z)) Q E s := by
  rcases a.zz with ⟨h1, p, q, h2⟩ | ⟨T, f, oT, h1, h2, h3⟩
  · refine wpAny_pyNext_zip_item D h1 a.ti h2 a.h1 a.h2 a.hl1 a.hl2 hx hy fun h' a1 a2 a3 a4 a5 a6 k => hQ h' ⟨.inr ⟨_, _, _, a1, a5, Nat.ne_of_gt (Heap.lt_size h1)⟩, k _ _ D.TIz D.TITO D.TIi1 D.TIi2 a.ti, a3, a4, a.hl1.at fun o e => k _ o D.l1z D.l1TO D.l1i1 D.l1i2 e, a.hl2.at fun o e => k _ o D.l2z D.l2TO D.l2i1 D.l2i2 e⟩ a5 a6 k
  · refine wpAny_pyNext_zip_item_held D h1 h2 a.ti a.h1 a.h2 a.hl1 a.hl2 hx hy fun h' a1 a3 a4 a5 a6 k => ?_
    have hz : s.heap.objs.size ≠ z := Nat.ne_of_gt (Heap.lt_size h1)
    refine hQ h' ⟨.inr ?_, k _ _ D.TIz D.TIi1 D.TIi2 a.ti, a3, a4, a.hl1.at fun o e => k _ o D.l1z D.l1i1 D.l1i2 e, a.hl2.at fun o e => k _ o D.l2z D.l2i1 D.l2i2 e⟩ a5 a6 fun c o c1 c2 c3 c4 e => k c o c1 c3 c4 e
    by_cases e1 : T = i1
    · subst e1
      obtain ⟨o', ho', _⟩ := a3
      exact ⟨T, true, o', a1, ho', h3⟩
    · by_cases e2 : T = i2
      · subst e2
        obtain ⟨o', ho', _⟩ := a4
        exact ⟨T, true, o', a1, ho', h3⟩
      · exact ⟨T, true, oT, a1, k _ _ h3 e1 e2 h2, h3⟩
theorem next_end {s : Shared} {z TI TO i1 i2 l1 l2 : Addr} {xs ys : Array Value} {i : Nat} {Q : Option Value → Shared → Prop} (hh : A.handled = none) (D : ZipApart z TI TO i1 i2 l1 l2) (a : ZAt s.heap z TI TO i1 i2 l1 l2 xs ys i) (he : xs[i]? = none ∨ ys[i]? = none)
    (hQ : ∀ h', (∀ c o, c ≠ z → c ≠ TO → c ≠ i1 → c ≠ i2 → s.heap.get? c = some o → h'.get? c = some o) → Q none { s with heap := h' }) :
    wpAny (model prog w) A (pyNext (.ref z)) Q E s := by
  rcases a.zz with ⟨h1, p, q, h2⟩ | ⟨T, f, oT, h1, h2, h3⟩
  · exact wpAny_pyNext_zip_end hh D h1 a.ti h2 a.h1 a.h2 a.hl1 a.hl2 he hQ
  · exact wpAny_pyNext_zip_end_held hh D h1 h2 a.ti a.h1 a.h2 a.hl1 a.hl2 he fun h' k => hQ h' fun c o c1 _ c3 c4 e => k c o c1 c3 c4 e
theorem loop {R : Result → Shared → Prop} (hh : A.handled = none) {z TI TO i1 i2 l1 l2 S : Addr} {xs ys : Array Value} (D : ZipApart z TI TO i1 i2 l1 l2) (nS : ∀ c, c = z ∨ c = TI ∨ c = TO ∨ c = i1 ∨ c = i2 ∨ c = l1 ∨ c = l2 → c ≠ S) (res : Value) (n0 : Nat)
    (below : ∀ c, c = z ∨ c = TO ∨ c = i1 ∨ c = i2 ∨ c = S → c < n0) (hz : xs.size = ys.size) (hn : xs.size ≤ sizeLine) :
    ∀ (k i : Nat) (s : Shared) (Ts : List Addr) (c : Nat), xs.size - i = k → i ≤ xs.size → n0 ≤ s.heap.objs.size → ZAt s.heap z TI TO i1 i2 l1 l2 xs ys i → s.heap.get? S = some { cls := .type "list", dict := none, data := .seq (Ts.map Value.ref).toArray c, slots := #[] } → Made s.heap n0 xs ys i Ts →
      (∀ h' tk Ts' c', (∀ b o, b < n0 → b ≠ z → b ≠ TO → b ≠ i1 → b ≠ i2 → b ≠ S → s.heap.get? b = some o → h'.get? b = some o) → h'.get? S = some { cls := .type "list", dict := none, data := .seq (Ts'.map Value.ref).toArray c', slots := #[] } → Made h' n0 xs ys xs.size Ts' → R (.ok (.ret res)) { s with heap := h', toks := tk }) →
      codeAny (model prog w) A (.builtin "list.extend.loop" ⟨[.ref S, .ref z, res], []⟩) R s := by
  intro k
  induction k with
  | zero =>
    intro i s Ts c hk hi hsz hst hS hm hR
    have hin : i = xs.size := by omega
    subst hin
    refine codeAny_builtin F.entry_extend_loop ?_
    rw [Around.under_plainId F.plain_extend_loop _]
    show wpAny _ A.in1 (pyNext (.ref z) >>= _) _ _ s
    refine wpAny_bind (next_end (show A.in1.handled = none from hh) D hst (.inl (by simp)) fun h' kp => ?_)
    have sz : ∀ t ∈ Ts, t ≠ z ∧ t ≠ TO ∧ t ≠ i1 ∧ t ≠ i2 ∧ t ≠ S := fun t ht => by
      have l := (hm.lo t ht).1
      have g : ∀ c, c = z ∨ c = TO ∨ c = i1 ∨ c = i2 ∨ c = S → t ≠ c := fun c hc => Nat.ne_of_gt (Nat.lt_of_lt_of_le (below c hc) l)
      exact ⟨g _ (by simp), g _ (by simp), g _ (by simp), g _ (by simp), g _ (by simp)⟩
    have tups : ∀ (j : Nat) (t : Addr) (x y : Value), Ts[j]? = some t → xs[j]? = some x → ys[j]? = some y → IsPair h' t x y := fun j t x y e1 e2 e3 => by
      obtain ⟨q1, q2, q3, q4, q5⟩ := sz t (List.mem_of_getElem? e1)
      exact kp _ _ q1 q2 q3 q4 (hm.tup j t x y e1 e2 e3)
    refine wpAny_pure (hR h' s.toks Ts c (fun b o _ b1 b2 b3 b4 _ e => kp b o b1 b2 b3 b4 e) (kp _ _ (fun q => nS z (by simp) q.symm) (fun q => nS TO (by simp) q.symm) (fun q => nS i1 (by simp) q.symm) (fun q => nS i2 (by simp) q.symm) hS) ⟨hm.len, hm.asc, fun t ht => ⟨(hm.lo t ht).1, ?_⟩, tups⟩)
    obtain ⟨j, hj⟩ := List.mem_iff_getElem?.mp ht
    have hjl : j < Ts.length := (List.getElem?_eq_some_iff.mp hj).1
    have hjx : j < xs.size := by rw [← hm.len]; exact hjl
    exact Heap.lt_size (tups j t xs[j] (ys[j]'(by omega)) hj (Array.getElem?_eq_getElem hjx) (Array.getElem?_eq_getElem (by omega)))
  | succ k ih =>
    intro i s Ts c hk hi hsz hst hS hm hR
    have hlt : i < xs.size := by omega
    have hlt2 : i < ys.size := by omega
    refine codeAny_builtin F.entry_extend_loop ?_
    rw [Around.under_plainId F.plain_extend_loop _]
    show wpAny _ A.in1 (pyNext (.ref z) >>= _) _ _ s
    refine wpAny_bind (next_item D hst (Array.getElem?_eq_getElem hlt) (Array.getElem?_eq_getElem hlt2) fun h1 hst1 hp1 hs1 kp => ?_)
    have S1 : h1.get? S = some { cls := .type "list", dict := none, data := .seq (Ts.map Value.ref).toArray c, slots := #[] } := kp _ _ (fun q => nS z (by simp) q.symm) (fun q => nS TO (by simp) q.symm) (fun q => nS i1 (by simp) q.symm) (fun q => nS i2 (by simp) q.symm) hS
    show wpAny _ A.in1 (updateSeq S (·.push (.ref s.heap.objs.size)) >>= _) _ _ _
    refine wpAny_bind ?_
    have eS := Heap.get?_update_self (Obj.mapSeq (·.push (.ref s.heap.objs.size))) S1 rfl
    have oth : ∀ b o, b ≠ S → h1.get? b = some o → (h1.update S (Obj.mapSeq (·.push (.ref s.heap.objs.size)))).get? b = some o := fun b o hb e => (Heap.get?_update_other _ _ (Ne.symm hb)).trans e
    have sz2 : (h1.update S (Obj.mapSeq (·.push (.ref s.heap.objs.size)))).objs.size = s.heap.objs.size + 1 := by rw [Heap.size_update, hs1]
    have eT : ((Ts ++ [s.heap.objs.size]).map Value.ref).toArray = (Ts.map Value.ref).toArray.push (.ref s.heap.objs.size) := by simp
    refine wpAny_updateSeq (s := { s with heap := h1 }) S1 rfl (wpAny_pure ⟨plainId_quiet F.plain_extend_loop _, ih (i + 1) { s with heap := h1.update S (Obj.mapSeq (·.push (.ref s.heap.objs.size))) } (Ts ++ [s.heap.objs.size]) _ (by omega) hlt (by show n0 ≤ _; rw [sz2]; omega) (hst1.keep nS oth fun o e => ⟨_, eS⟩) (by rw [eT]; exact eS) ?_ fun h' tk Ts' c' k2 hS' hm' => ?_⟩)
      (by rw [List.size_toArray, List.length_map, hm.len]; omega) (by show ((Ts.map Value.ref).toArray.push (.ref s.heap.objs.size)).size ≤ sizeLine + 1; rw [Array.size_push, List.size_toArray, List.length_map, hm.len]; omega)
    · have sz : ∀ t ∈ Ts, t ≠ z ∧ t ≠ TO ∧ t ≠ i1 ∧ t ≠ i2 ∧ t ≠ S := fun t ht => by
        have l := (hm.lo t ht).1
        have g : ∀ c, c = z ∨ c = TO ∨ c = i1 ∨ c = i2 ∨ c = S → t ≠ c := fun c hc => Nat.ne_of_gt (Nat.lt_of_lt_of_le (below c hc) l)
        exact ⟨g _ (by simp), g _ (by simp), g _ (by simp), g _ (by simp), g _ (by simp)⟩
      refine ⟨by rw [List.length_append, hm.len]; rfl, ?_, fun t ht => ?_, fun j t x y e1 e2 e3 => ?_⟩
      · rw [List.pairwise_append]
        refine ⟨hm.asc, List.pairwise_singleton _ _, fun a ha b hb => ?_⟩
        rw [List.mem_singleton.mp hb]
        exact (hm.lo a ha).2
      · rcases List.mem_append.mp ht with ht | ht
        · exact ⟨(hm.lo t ht).1, Nat.lt_of_lt_of_eq (Nat.lt_succ_of_lt (hm.lo t ht).2) sz2.symm⟩
        · rw [List.mem_singleton.mp ht]
          exact ⟨hsz, Nat.lt_of_lt_of_eq (Nat.lt_succ_self _) sz2.symm⟩
      · by_cases hj : j < Ts.length
        · rw [List.getElem?_append_left hj] at e1
          obtain ⟨q1, q2, q3, q4, q5⟩ := sz t (List.mem_of_getElem? e1)
          exact oth _ _ q5 (kp _ _ q1 q2 q3 q4 (hm.tup j t x y e1 e2 e3))
        · rw [List.getElem?_append_right (by omega)] at e1
          have hj0 : j - Ts.length = 0 := by
            have := (List.getElem?_eq_some_iff.mp e1).1
            simp at this
            omega
          rw [hj0] at e1
          have et : s.heap.objs.size = t := by simpa using e1
          have hji : j = i := by
            have := hm.len
            omega
          subst hji
          rw [Array.getElem?_eq_getElem hlt] at e2
          rw [Array.getElem?_eq_getElem hlt2] at e3
          rw [← et, ← Option.some.inj e2, ← Option.some.inj e3]
          exact oth _ _ (Nat.ne_of_gt (Nat.lt_of_lt_of_le (below S (by simp)) hsz)) hp1
    · exact hR h' tk Ts' c' (fun b o hb b1 b2 b3 b4 b5 e => k2 b o hb b1 b2 b3 b4 b5 (oth b o b5 (kp b o b1 b2 b3 b4 e))) hS' hm'
theorem extend_zip {s : Shared} {R : Result → Shared → Prop} (hh : A.handled = none) {z TI TO i1 i2 l1 l2 S : Addr} {xs ys : Array Value} {c0 : Nat} (D : ZipApart z TI TO i1 i2 l1 l2) (nS : ∀ c, c = z ∨ c = TI ∨ c = TO ∨ c = i1 ∨ c = i2 ∨ c = l1 ∨ c = l2 → c ≠ S) (res : Value)
    (hz : xs.size = ys.size) (hn : xs.size ≤ sizeLine) (hst : ZAt s.heap z TI TO i1 i2 l1 l2 xs ys 0) (hf : IsZip s.heap z TI TO .none) (lt : ∀ c, c = z ∨ c = TO ∨ c = i1 ∨ c = i2 ∨ c = S → c < s.heap.objs.size) (hS : s.heap.get? S = some { cls := .type "list", data := .seq #[] c0 })
    (hR : ∀ h' tk Ts' c', (∀ b o, b < s.heap.objs.size → b ≠ z → b ≠ TO → b ≠ i1 → b ≠ i2 → b ≠ S → s.heap.get? b = some o → h'.get? b = some o) → h'.get? S = some { cls := .type "list", dict := none, data := .seq (Ts'.map Value.ref).toArray c', slots := #[] } → Made h' s.heap.objs.size xs ys xs.size Ts' → R (.ok (.ret res)) { s with heap := h', toks := tk }) :
    wpAny (model prog w) A.in1 (Builtin.List.listExtendWith (.ref S) (.ref z) res)
      (fun fin s' => match fin with | .done f => R (.ok f) s' | .again c' => c'.quiet = true ∧ codeAny (model prog w) A c' R s') (fun e s' => R (.error e) s') s := by
  have hSz : S ≠ z := fun q => nS z (by simp) q.symm
  have hT : s.TypeIs (.ref z) "zip" := ⟨_, hf, rfl⟩
  unfold Builtin.List.listExtendWith
  refine wpAny_bind (wpAny_typeOf hT ?_)
  have h1 : Builtin.List.listSameRef (.ref S) (.ref z) = false := by simp [Builtin.List.listSameRef, hSz]
  have h2 : (Value.type "zip" == Value.type "list") = false := by decide
  have h3 : (Value.type "zip" == Value.type "tuple") = false := by decide
  simp only [h1, h2, h3, Bool.or_false, Bool.false_eq_true, if_false]
  refine wpAny_bind (wpAny_pyIter_zip hf ?_)
  refine wpAny_bind (wpAny_holding ?_)
  unfold Builtin.List.listLengthHint
  refine wpAny_bind (wpAny_specialOf hT nolen_zip ?_)
  show wpAny _ A.in1 (specialOf (Value.ref z) (Str.ofString "__length_hint__") >>= _) _ _ _
  refine wpAny_bind (wpAny_specialOf hT nohint_zip ?_)
  refine wpAny_pure ?_
  show wpAny _ A.in1 (rule "list.extend.makes-room" >>= fun _ => Builtin.List.listTouch (.ref S) >>= fun _ =>
    again (.builtin "list.extend.loop" ⟨[.ref S, .ref z, res], []⟩)) _ _ _
  refine wpAny_bind (wpAny_rule ?_)
  refine wpAny_bind ?_
  show wpAny _ A.in1 (updateSeq S (·.push .none) >>= fun _ => updateSeq S (·.pop)) _ _ _
  refine wpAny_bind (wpAny_updateSeq hS rfl ?_)
  have hS₂ := Heap.get?_update_self (Obj.mapSeq (·.push Value.none)) hS rfl
  refine wpAny_updateSeq (hz := by seq_fits) hS₂ rfl ?_
  have hS₃ := Heap.get?_update_self (Obj.mapSeq (·.pop)) hS₂ rfl
  have oth : ∀ b o, b ≠ S → s.heap.get? b = some o → ((s.heap.update S (Obj.mapSeq (·.push Value.none))).update S (Obj.mapSeq (·.pop))).get? b = some o :=
    fun b o hb e => (Heap.get?_update_other _ _ (Ne.symm hb)).trans ((Heap.get?_update_other _ _ (Ne.symm hb)).trans e)
  have szz : ((s.heap.update S (Obj.mapSeq (·.push Value.none))).update S (Obj.mapSeq (·.pop))).objs.size = s.heap.objs.size := by rw [Heap.size_update, Heap.size_update]
  refine wpAny_pure ⟨plainId_quiet F.plain_extend_loop _, loop hh D nS res s.heap.objs.size lt hz hn xs.size 0 _ [] _ rfl (Nat.zero_le _) (Nat.le_of_eq szz.symm) (hst.keep nS oth fun o _ => ⟨_, hS₃⟩) hS₃ ⟨rfl, List.Pairwise.nil, (fun t ht => by cases ht), (fun j t x y e => by simp at e)⟩ fun h' tk Ts' c' k hS' hm => ?_⟩
  exact hR h' tk Ts' c' (fun b o hb b1 b2 b3 b4 b5 e => k b o hb b1 b2 b3 b4 b5 (oth b o b5 e)) hS' hm
theorem init_zip {s : Shared} {R : Result → Shared → Prop} (hh : A.handled = none) {z TI TO i1 i2 l1 l2 S : Addr} {xs ys : Array Value} (D : ZipApart z TI TO i1 i2 l1 l2) (nS : ∀ c, c = z ∨ c = TI ∨ c = TO ∨ c = i1 ∨ c = i2 ∨ c = l1 ∨ c = l2 → c ≠ S)
    (hz : xs.size = ys.size) (hn : xs.size ≤ sizeLine) (hst : ZAt s.heap z TI TO i1 i2 l1 l2 xs ys 0) (hf : IsZip s.heap z TI TO .none) (lt : ∀ c, c = z ∨ c = TO ∨ c = i1 ∨ c = i2 ∨ c = S → c < s.heap.objs.size) (hS : s.heap.get? S = some { cls := .type "list", data := .seq #[] })
    (hR : ∀ h' tk Ts' c', (∀ b o, b < s.heap.objs.size → b ≠ z → b ≠ TO → b ≠ i1 → b ≠ i2 → b ≠ S → s.heap.get? b = some o → h'.get? b = some o) → h'.get? S = some { cls := .type "list", dict := none, data := .seq (Ts'.map Value.ref).toArray c', slots := #[] } → Made h' s.heap.objs.size xs ys xs.size Ts' → R (.ok (.ret .none)) { s with heap := h', toks := tk }) :
    wpAny (model prog w) A.in1 (Builtin.«list.__init__» ⟨[.ref S, .ref z], []⟩)
      (fun fin s' => match fin with | .done f => R (.ok f) s' | .again c' => c'.quiet = true ∧ codeAny (model prog w) A c' R s') (fun e s' => R (.error e) s') s := by
  show wpAny _ A.in1 (do let old ← Builtin.List.listItems (.ref S); Builtin.List.listUpdate (.ref S) (fun _ => #[]); letGo old.toList.reverse; Builtin.List.listExtendWith (.ref S) (.ref z) .none) _ _ s
  refine wpAny_bind ?_
  unfold Builtin.List.listItems
  refine wpAny_bind (wpAny_seqItems hS rfl (wpAny_pure ?_))
  show wpAny _ A.in1 (updateSeq S (fun _ => #[]) >>= fun _ => letGo (#[] : Array Value).toList.reverse >>= fun _ => Builtin.List.listExtendWith (.ref S) (.ref z) .none) _ _ s
  refine wpAny_bind (wpAny_updateSeq hS rfl ?_)
  have hS₂ := Heap.get?_update_self (Obj.mapSeq (fun _ => (#[] : Array Value))) hS rfl
  have oth : ∀ b o, b ≠ S → s.heap.get? b = some o → (s.heap.update S (Obj.mapSeq (fun _ => (#[] : Array Value)))).get? b = some o :=
    fun b o hb e => (Heap.get?_update_other _ _ (Ne.symm hb)).trans e
  have szz : (s.heap.update S (Obj.mapSeq (fun _ => (#[] : Array Value)))).objs.size = s.heap.objs.size := Heap.size_update ..
  refine wpAny_bind (wpAny_letGo ?_)
  refine extend_zip (s := { s with heap := s.heap.update S (Obj.mapSeq (fun _ => (#[] : Array Value))) }) hh D nS .none hz hn (hst.keep nS oth fun o _ => ⟨_, hS₂⟩) (oth _ _ (nS z (by simp)) hf) (fun c hc => Nat.lt_of_lt_of_eq (lt c hc) szz.symm) hS₂ fun h' tk Ts' c' k hS' hm => ?_
  refine hR h' tk Ts' c' (fun b o hb b1 b2 b3 b4 b5 e => k b o (Nat.lt_of_lt_of_eq hb szz.symm) b1 b2 b3 b4 b5 (oth b o b5 e)) hS' ?_
  have e : (s.heap.update S (Obj.mapSeq (fun _ => (#[] : Array Value)))).objs.size = s.heap.objs.size := szz
  exact e ▸ hm
theorem call_list_zip {s : Shared} {Q : Value → Shared → Prop} (hh : A.handled = none) {z TI TO i1 i2 l1 l2 : Addr} {xs ys : Array Value} (D : ZipApart z TI TO i1 i2 l1 l2) (hz : xs.size = ys.size) (hn : xs.size ≤ sizeLine) (hst : ZAt s.heap z TI TO i1 i2 l1 l2 xs ys 0) (hf : IsZip s.heap z TI TO .none)
    (lt : ∀ c, c = z ∨ c = TI ∨ c = TO ∨ c = i1 ∨ c = i2 ∨ c = l1 ∨ c = l2 → c < s.heap.objs.size)
    (hQ : ∀ h' tk Ts' c', (∀ b o, b < s.heap.objs.size → b ≠ z → b ≠ TO → b ≠ i1 → b ≠ i2 → s.heap.get? b = some o → h'.get? b = some o) → h'.get? s.heap.objs.size = some { cls := .type "list", dict := none, data := .seq (Ts'.map Value.ref).toArray c', slots := #[] } → Made h' (s.heap.objs.size + 1) xs ys xs.size Ts' → Q (.ref s.heap.objs.size) { s with heap := h', toks := tk }) :
    wpAny (model prog w) A (call (.type "list") [.ref z]) Q E s := by
  refine callType_codes (Q₁ := fun obj s₁ => obj = .ref s.heap.objs.size ∧ s₁ = { s with heap := s.heap.push { cls := .type "list", data := .seq #[] } }) F.called_list (F.typeCall_list_1 _) F.entry_list_init
    (code_list_new _ ⟨rfl, rfl⟩) fun obj s₁ h₁ => ?_
  obtain ⟨rfl, rfl⟩ := h₁
  have hS : (s.heap.push { cls := .type "list", data := .seq #[] }).get? s.heap.objs.size = some { cls := .type "list", data := .seq #[] } := Heap.get?_push_size _ rfl
  have nS : ∀ c, c = z ∨ c = TI ∨ c = TO ∨ c = i1 ∨ c = i2 ∨ c = l1 ∨ c = l2 → c ≠ s.heap.objs.size := fun c hc => Nat.ne_of_lt (lt c hc)
  have up : ∀ b o, s.heap.get? b = some o → (s.heap.push { cls := .type "list", data := .seq #[] }).get? b = some o := fun b o e => Heap.get?_push_of_some _ e
  have szz : (s.heap.push { cls := .type "list", data := .seq #[] }).objs.size = s.heap.objs.size + 1 := Heap.size_push ..
  have hst2 : ZAt (s.heap.push { cls := .type "list", data := .seq #[] }) z TI TO i1 i2 l1 l2 xs ys 0 := hst.keep nS (fun b o _ e => up b o e) fun o e => absurd (Heap.lt_size e) (Nat.lt_irrefl _)
  refine ⟨⟨_, hS, rfl⟩, F.args_list_init_2 _ _, init_zip (A := A.in1) (s := { s with heap := s.heap.push { cls := .type "list", data := .seq #[] } }) hh D nS hz hn hst2 (up _ _ hf) (fun c hc => ?_) hS fun h' tk Ts' c' k hS' hm => ?_⟩
  · refine Nat.lt_of_lt_of_eq ?_ szz.symm
    rcases hc with q | q | q | q | q
    · exact Nat.lt_succ_of_lt (lt c (by simp [q]))
    · exact Nat.lt_succ_of_lt (lt c (by simp [q]))
    · exact Nat.lt_succ_of_lt (lt c (by simp [q]))
    · exact Nat.lt_succ_of_lt (lt c (by simp [q]))
    · rw [q]
      exact Nat.lt_succ_self _
  · have e : (s.heap.push { cls := .type "list", data := .seq #[] }).objs.size = s.heap.objs.size + 1 := szz
    exact ⟨rfl, hQ h' tk Ts' c' (fun b o hb b1 b2 b3 b4 q => k b o (Nat.lt_of_lt_of_eq (Nat.lt_succ_of_lt hb) szz.symm) b1 b2 b3 b4 (Nat.ne_of_lt hb) (up b o q)) hS' (e ▸ hm)⟩
end
/-- many new objects laid at once -/
theorem laidMany {X : Cx} {pins : List (Addr × Obj)} {σ : L2.St} {H H' : Hp} {s : Shared} {h' : Heap} {t' : Nat} (I : Inv X pins σ H s) (k : ∀ b u, s.heap.get? b = some u → h'.get? b = some u) (old : ∀ b, b < s.heap.objs.size → H' b = H b)
    (new : ∀ b o, s.heap.objs.size ≤ b → H' b = some o → ObjOk X.prog X.w H' h' b o) : Inv X pins σ H' { s with heap := h', toks := t' } := by
  have at_ : ∀ b u, H b = some u → H' b = some u := fun b u e => by
    rw [old b (ObjOk.lt (I.hok b u e))]
    exact e
  refine I.step (g' := s.gens) (d' := s.drawn) (ch := []) (fun b hb => absurd hb (by simp)) (fun b o _ _ _ e _ => k b o e) (fun b o _ _ _ e _ => ⟨o.slots, k b o e⟩) (fun b o _ e n => by rw [old b (Heap.lt_size e)]; exact n) (fun b o _ e => ⟨o, k b o e⟩)
    (fun b xs e => at_ b _ e) (fun b o u e => at_ b _ e) (fun b ps e => ⟨#[], by rw [at_ b _ e]; simp⟩) (fun m hm => ?_) (fun b u e => ?_) I.bare
  · obtain ⟨o, es, ep, ho, r⟩ := hm
    exact ⟨o, es, ep, k _ o ho, r⟩
  · by_cases hb : b < s.heap.objs.size
    · rw [old b hb] at e
      exact (I.hok b u e).stay (fun c v _ q => k c v q) (fun c q => at_ c _ q) fun c xs q => at_ c _ q
    · exact new b u (Nat.le_of_not_lt hb) e
/-- list(zip(a, b)), two lists of one length: a new list of new pairs -/
def tListZip (K : PySem.W.Frag) (ta : TA) : TE := fun σ H Q => ta σ H fun vs H1 => ∃ (a b : Addr) (xs ys : List V), vs = [.ref a, .ref b] ∧ SqL K H1 a xs ∧ SqL K H1 b ys ∧ xs.length = ys.length ∧
  ∀ (q : Addr) (ts : List Addr) (H2 : Hp), H1 q = none → (∀ t ∈ ts, H1 t = none) → q ∉ ts → ts.Nodup → ts.length = xs.length → H2 q = some (.lst (ts.map V.ref)) →
    (∀ (j : Nat) (t : Addr) (x y : V), ts[j]? = some t → xs[j]? = some x → ys[j]? = some y → H2 t = some (.tup [x, y])) → (∀ b, b ≠ q → b ∉ ts → H2 b = H1 b) → Q (.ref q) H2
theorem pe_listZip {X : Cx} {e1 e2 : Expr} {ta : TA} {p p2 pos pos2 : Pos} (hc : X.calm = true) (hg : Gl X "list") (hm : X.mg "list" = none) (hg2 : Gl X "zip") (hm2 : X.mg "zip" = none) (ha : PA X [e1, e2] ta)
    (hs2 : starEach [e1, e2] X.env = (false, eval e1 X.env) :: starEach [e2] X.env := by rfl) (hpl : (backTo pos2 (starEach [e2] X.env)).any (·.1) = false := by rfl)
    (hs : starEach [.Call (.Name "zip" p2) [e1, e2] [] pos2] X.env = (false, eval (.Call (.Name "zip" p2) [e1, e2] [] pos2) X.env) :: starEach [] X.env := by rfl) :
    PE X (.Call (.Name "list" p) [.Call (.Name "zip" p2) [e1, e2] [] pos2] [] pos) (tListZip X.K ta) := by
  refine ⟨fun pins s σ H Q I h => ?_⟩
  refine Call_ (ld_blt I hg hm boot_list (PyProof.Rows.callWith_type1 (args_cons (Call_ (ld_blt I hg2 hm2 PyProof.Rows.boot_zip (PyProof.Rows.callWith_type1 (thn (ha.run pos2 pins s σ H _ I h) fun us s1 ⟨vs, H1, I1, r1, q1⟩ => ?_) hs2 hpl))) hs) hs rfl))
  obtain ⟨a, b, xs, ys, ev, hqx, hqy, hxy, q⟩ := q1
  subst ev
  cases r1 with
  | cons r rr =>
    cases rr with
    | cons r' rr =>
      cases rr
      cases r
      cases r'
      obtain ⟨its, rv, p1, hz1⟩ := I1.list hqx
      obtain ⟨its2, rv2, p2', _⟩ := I1.list hqy
      refine call_zip_2 p1.isList p2'.isList fun h1 hz hTI hTO i1 i2 hsz hk => args_nil ?_
      have D := PySem.W.ktu_apart s1.heap.objs.size a b p1.lt p2'.lt
      have l1 := p1.lt
      have l2 := p2'.lt
      have eL : its.toArray.size = its2.toArray.size := by rw [List.size_toArray, List.size_toArray, ← rv.length, ← rv2.length, hxy]
      refine call_list_zip (s := { s1 with heap := h1 }) (I1.ok.hd hc) D eL (by rw [List.size_toArray, ← rv.length]; exact hz1) ⟨.inl ⟨hz, _, _, hTO⟩, hTI, i1, i2, p1.isList.at fun o e => hk _ o e, p2'.isList.at fun o e => hk _ o e⟩ hz (fun c hc => ?_) fun h' tk Ts c' k hS hm => ?_
      · show c < h1.objs.size
        rw [hsz]
        rcases hc with z | z | z | z | z | z | z <;> rw [z] <;> first | exact Nat.lt_of_lt_of_le ‹_› (Nat.le_add_right _ _) | simp
      · have S5 : (({ s1 with heap := h1 } : Shared)).heap.objs.size = s1.heap.objs.size + 5 := hsz
        have kp : ∀ b o, s1.heap.get? b = some o → h'.get? b = some o := fun b o e => by
          have lb := Heap.lt_size e
          have lt5 : b < (({ s1 with heap := h1 } : Shared)).heap.objs.size := by rw [S5]; exact Nat.lt_of_lt_of_le lb (Nat.le_add_right _ _)
          refine k b o lt5 ?_ ?_ ?_ ?_ (hk b o e)
          · exact Nat.ne_of_lt (Nat.lt_of_lt_of_le lb (Nat.le_add_right _ _))
          · exact Nat.ne_of_lt (Nat.lt_of_lt_of_le lb (Nat.le_add_right _ _))
          · exact Nat.ne_of_lt lb
          · exact Nat.ne_of_lt (Nat.lt_of_lt_of_le lb (Nat.le_add_right _ _))
        have S5' : h1.objs.size = s1.heap.objs.size + 5 := hsz
        have hS' : h'.get? h1.objs.size = some { cls := .type "list", dict := none, data := .seq (Ts.map Value.ref).toArray c', slots := #[] } := hS
        have loT : ∀ t ∈ Ts, h1.objs.size < t := fun t ht => Nat.lt_of_succ_le (hm.lo t ht).1
        have nqT : h1.objs.size ∉ Ts := fun z => Nat.lt_irrefl _ (loT _ z)
        have lenT : Ts.length = xs.length := by rw [hm.len, List.size_toArray, ← rv.length]
        have nd : Ts.Nodup := hm.asc.imp fun h => Nat.ne_of_lt h
        let H2 : Hp := fun b => if b = h1.objs.size then some (.lst (Ts.map V.ref)) else match Ts.idxOf? b with
          | some j => (match xs[j]?, ys[j]? with
            | some x, some y => some (.tup [x, y])
            | _, _ => H1 b)
          | none => H1 b
        have eT : ∀ (j : Nat) (t : Addr) (x y : V), Ts[j]? = some t → xs[j]? = some x → ys[j]? = some y → H2 t = some (.tup [x, y]) := fun j t x y e1 e2 e3 => by
          have nt : t ≠ h1.objs.size := Nat.ne_of_gt (loT t (List.mem_of_getElem? e1))
          show (if t = h1.objs.size then _ else _) = _
          rw [if_neg nt]
          have ei : Ts.idxOf? t = some j := by
            obtain ⟨hj, ej⟩ := List.getElem?_eq_some_iff.mp e1
            rw [List.idxOf?_eq_some_iff]
            refine ⟨hj, ej, fun k hkj z => ?_⟩
            have := (List.pairwise_iff_getElem.mp hm.asc) k j (by omega) hj hkj
            rw [z, ej] at this
            exact Nat.lt_irrefl _ this
          rw [ei]
          show (match xs[j]?, ys[j]? with
            | some x, some y => some (HO.tup [x, y])
            | _, _ => H1 t) = _
          rw [e2, e3]
        have eO : ∀ b, b ≠ h1.objs.size → b ∉ Ts → H2 b = H1 b := fun b n1 n2 => by
          show (if b = h1.objs.size then _ else _) = _
          rw [if_neg n1, List.idxOf?_eq_none_iff.mpr n2]
        have eq : H2 h1.objs.size = some (.lst (Ts.map V.ref)) := if_pos rfl
        have fr : ∀ b, s1.heap.objs.size ≤ b → H1 b = none := fun b hb => I1.hok.fresh hb
        have J : Inv X pins σ H2 { s1 with heap := h', toks := tk } := by
          refine laidMany I1 kp (fun b hb => eO b ?_ fun z => ?_) fun b o hb e => ?_
          · rw [S5']
            exact Nat.ne_of_lt (Nat.lt_of_lt_of_le hb (Nat.le_add_right _ _))
          · have := loT b z
            rw [S5'] at this
            omega
          · by_cases e1 : b = h1.objs.size
            · subst e1
              rw [eq] at e
              cases e
              refine ⟨by rw [List.length_map, lenT]; exact hz1, Ts.map Value.ref, c', ?_, hS'⟩
              have : ∀ l : List Addr, Vals (l.map V.ref) (l.map Value.ref) := fun l => by
                induction l with
                | nil => exact .nil
                | cons a l ih => exact .cons rfl ih
              exact this Ts
            · by_cases e2 : b ∈ Ts
              · obtain ⟨j, hj⟩ := List.mem_iff_getElem?.mp e2
                have jl : j < xs.length := by rw [← lenT]; exact (List.getElem?_eq_some_iff.mp hj).1
                have ex : xs[j]? = some xs[j] := List.getElem?_eq_getElem jl
                have ey : ys[j]? = some (ys[j]'(by omega)) := List.getElem?_eq_getElem (by omega)
                rw [eT j b _ _ hj ex ey] at e
                cases e
                obtain ⟨u, hu, ru⟩ := rv.get ex
                obtain ⟨u2, hu2, ru2⟩ := rv2.get ey
                have pr : IsPair h' b u u2 := hm.tup j b u u2 hj (by rw [List.getElem?_toArray]; exact hu) (by rw [List.getElem?_toArray]; exact hu2)
                refine ⟨by simp [sizeLine_eq], [u, u2], .cons ru (.cons ru2 .nil), ?_⟩
                exact ⟨_, pr, rfl, 0, rfl⟩
              · rw [eO b e1 e2, fr b hb] at e
                cases e
        refine ⟨.ref h1.objs.size, H2, J, rfl, q _ Ts H2 (fr _ (by rw [S5']; exact Nat.le_add_right _ _)) (fun t ht => fr _ ?_) nqT nd lenT eq eT eO⟩
        have := loT t ht
        rw [S5'] at this
        omega
end ZL

namespace MR
open PySem PySem.Spec
/-! the rows of a trail: a literal and its reason; levels, depth and starts follow -/
abbrev TRow := Int × Option Int
theorem snoc_ind {α : Type} {P : List α → Prop} (h0 : P []) (h1 : ∀ xs x, P xs → P (xs ++ [x])) (xs : List α) : P xs := by
  have h : ∀ ys : List α, P ys.reverse := by
    intro ys
    induction ys with
    | nil => exact h0
    | cons y ys ih =>
      rw [List.reverse_cons]
      exact h1 _ _ ih
  have := h xs.reverse
  rwa [List.reverse_reverse] at this
def dep (rs : List TRow) : Nat := rs.countP fun r => r.2.isNone
def lev (rs : List TRow) (i : Nat) : Nat := dep (rs.take (i + 1))
def levs (rs : List TRow) : List Nat := (List.range rs.length).map (lev rs)
def starts (rs : List TRow) : List Nat := (List.range rs.length).filter fun i => match rs[i]? with
  | some r => r.2.isNone
  | none => false
theorem dep_snoc (rs : List TRow) (r : TRow) : dep (rs ++ [r]) = dep rs + if r.2.isNone then 1 else 0 := by
  unfold dep
  rw [List.countP_append, List.countP_singleton]
theorem lev_app {rs : List TRow} {r : TRow} {i : Nat} (h : i < rs.length) : lev (rs ++ [r]) i = lev rs i := by
  unfold lev
  rw [List.take_append_of_le_length (by omega)]
theorem lev_last (rs : List TRow) (r : TRow) : lev (rs ++ [r]) rs.length = dep (rs ++ [r]) := by
  unfold lev
  rw [List.take_of_length_le (by rw [List.length_append]; exact Nat.le_refl _)]
theorem levs_snoc (rs : List TRow) (r : TRow) : levs (rs ++ [r]) = levs rs ++ [dep (rs ++ [r])] := by
  unfold levs
  rw [List.length_append, List.length_singleton, List.range_succ, List.map_append]
  congr 1
  · exact List.map_congr_left fun i hi => lev_app (List.mem_range.mp hi)
  · simp only [List.map_cons, List.map_nil, lev_last]
theorem starts_snoc (rs : List TRow) (r : TRow) : starts (rs ++ [r]) = starts rs ++ if r.2.isNone then [rs.length] else [] := by
  unfold starts
  rw [List.length_append, List.length_singleton, List.range_succ, List.filter_append]
  congr 1
  · refine List.filter_congr fun i hi => ?_
    have h := List.mem_range.mp hi
    rw [List.getElem?_append_left h]
  · by_cases h : r.2.isNone = true
    · rw [if_pos h]
      simp [h]
    · rw [if_neg h]
      simp at h
      simp [h]
theorem starts_len (rs : List TRow) : (starts rs).length = dep rs := by
  induction rs using snoc_ind with
  | h0 => rfl
  | h1 rs r ih =>
    rw [starts_snoc, dep_snoc, List.length_append, ih]
    split <;> rfl
theorem starts_lt {rs : List TRow} {i : Nat} (h : i ∈ starts rs) : i < rs.length := by
  unfold starts at h
  exact List.mem_range.mp (List.mem_filter.mp h).1
theorem levs_len (rs : List TRow) : (levs rs).length = rs.length := by unfold levs; rw [List.length_map, List.length_range]
/-- the edges: 0, the starts, the length -/
def ed (rs : List TRow) : Nat → Nat
  | 0 => 0
  | k + 1 => ((starts rs)[k]?).getD rs.length
theorem ed_succ (rs : List TRow) (k : Nat) : ed rs (k + 1) = ((starts rs)[k]?).getD rs.length := rfl
theorem ed_lt {rs : List TRow} {k : Nat} (h : k < dep rs) : ∃ s, (starts rs)[k]? = some s ∧ ed rs (k + 1) = s ∧ s < rs.length := by
  have hk : k < (starts rs).length := by rw [starts_len]; exact h
  refine ⟨(starts rs)[k], List.getElem?_eq_getElem hk, ?_, starts_lt (List.getElem_mem hk)⟩
  rw [ed_succ, List.getElem?_eq_getElem hk]
  rfl
theorem ed_ge {rs : List TRow} {k : Nat} (h : dep rs ≤ k) : ed rs (k + 1) = rs.length := by
  have hk : (starts rs)[k]? = none := List.getElem?_eq_none (by rw [starts_len]; exact h)
  rw [ed_succ, hk]
  rfl
theorem dep_take_le (rs : List TRow) (n : Nat) : dep (rs.take n) ≤ dep rs := by
  have h : dep rs = dep (rs.take n) + dep (rs.drop n) := by
    unfold dep
    rw [← List.countP_append, List.take_append_drop]
  omega
/-- the levels up to k are those ahead of the edge behind k -/
theorem key (rs : List TRow) : ∀ k i, i < rs.length → (lev rs i ≤ k ↔ i < ed rs (k + 1)) := by
  induction rs using snoc_ind with
  | h0 => intro k i hi; simp at hi
  | h1 rs r ih =>
    intro k i hi
    rw [List.length_append, List.length_singleton] at hi
    have hd := dep_snoc rs r
    have hs := starts_snoc rs r
    by_cases hk : dep (rs ++ [r]) ≤ k
    · rw [ed_ge hk, List.length_append, List.length_singleton]
      have : lev (rs ++ [r]) i ≤ dep (rs ++ [r]) := dep_take_le _ _
      omega
    · by_cases hk2 : k < dep rs
      · obtain ⟨s, h1, h2, h3⟩ := ed_lt hk2
        have e : ed (rs ++ [r]) (k + 1) = ed rs (k + 1) := by
          rw [h2, ed_succ, hs, List.getElem?_append_left (by rw [starts_len]; exact hk2), h1]
          rfl
        rw [e]
        by_cases hi2 : i < rs.length
        · rw [lev_app hi2]
          exact ih k i hi2
        · obtain rfl : i = rs.length := by omega
          rw [lev_last, h2]
          omega
      · by_cases hn : r.2.isNone = true
        · rw [if_pos hn] at hd hs
          obtain rfl : k = dep rs := by omega
          have e : ed (rs ++ [r]) (dep rs + 1) = rs.length := by
            rw [ed_succ, hs, List.getElem?_append_right (by rw [starts_len]; exact Nat.le_refl _), starts_len, Nat.sub_self]
            rfl
          rw [e]
          by_cases hi2 : i < rs.length
          · rw [lev_app hi2]
            have : lev rs i ≤ dep rs := dep_take_le _ _
            omega
          · obtain rfl : i = rs.length := by omega
            rw [lev_last, hd]
            omega
        · rw [if_neg hn] at hd
          omega
/-- a run of l's from a to b -/
theorem count_run {l : Nat} : ∀ (xs : List Nat) (a b : Nat), a ≤ b → b ≤ xs.length → (∀ i x, xs[i]? = some x → (x = l ↔ a ≤ i ∧ i < b)) → xs.count l = b - a := by
  intro xs
  induction xs using snoc_ind with
  | h0 => intro a b h1 h2 _; simp at h2; subst h2; simp
  | h1 xs x ih =>
    intro a b h1 h2 h
    rw [List.length_append, List.length_singleton] at h2
    rw [List.count_append, List.count_singleton]
    have hx := h xs.length x (by simp)
    have hr : ∀ i y, xs[i]? = some y → (y = l ↔ a ≤ i ∧ i < b) := fun i y e => h i y (by rw [List.getElem?_append_left (List.getElem?_eq_some_iff.mp e).1]; exact e)
    by_cases hb : b ≤ xs.length
    · rw [ih a b h1 hb hr]
      have : ¬ x = l := fun e => by have := hx.mp e; omega
      have e : (x == l) = false := beq_eq_false_iff_ne.mpr this
      rw [e]
      rfl
    · obtain rfl : b = xs.length + 1 := by omega
      by_cases ha : a ≤ xs.length
      · have e : (x == l) = true := beq_iff_eq.mpr (hx.mpr ⟨ha, by omega⟩)
        rw [e, ih a xs.length ha (Nat.le_refl _) fun i y e => by
          have hi := (List.getElem?_eq_some_iff.mp e).1
          rw [hr i y e]
          omega]
        simp only [if_true]
        omega
      · have : ¬ x = l := fun e => by have := hx.mp e; omega
        have e : (x == l) = false := beq_eq_false_iff_ne.mpr this
        rw [e]
        have h0 : xs.count l = 0 := by
          refine List.count_eq_zero.mpr fun hm => ?_
          obtain ⟨i, hi⟩ := List.mem_iff_getElem?.mp hm
          have h3 := (hr i l hi).mp rfl
          have h4 := (List.getElem?_eq_some_iff.mp hi).1
          omega
        rw [h0]
        simp
        omega
theorem ed_le (rs : List TRow) (k : Nat) : ed rs k ≤ rs.length := by
  cases k with
  | zero => exact Nat.zero_le _
  | succ k =>
    by_cases h : k < dep rs
    · obtain ⟨s, _, h2, h3⟩ := ed_lt h
      omega
    · rw [ed_ge (by omega)]
      exact Nat.le_refl _
theorem levs_at {rs : List TRow} {i x : Nat} (h : (levs rs)[i]? = some x) : i < rs.length ∧ x = lev rs i := by
  have hi := (List.getElem?_eq_some_iff.mp h).1
  rw [levs_len] at hi
  unfold levs at h
  rw [List.getElem?_map, List.getElem?_range hi] at h
  exact ⟨hi, (Option.some.inj h).symm⟩
theorem ed_mono (rs : List TRow) (k : Nat) : ed rs k ≤ ed rs (k + 1) := by
  cases k with
  | zero => exact Nat.zero_le _
  | succ k =>
    rcases Nat.lt_or_ge (ed rs (k + 1 + 1)) (ed rs (k + 1)) with h | h
    · exfalso
      have hi : ed rs (k + 1 + 1) < rs.length := Nat.lt_of_lt_of_le h (ed_le rs _)
      have h1 := (key rs k _ hi).mpr h
      have h2 := (key rs (k + 1) _ hi).mp (by omega)
      omega
    · exact h
/-- how many rows stand at a level -/
theorem count_lev (rs : List TRow) (k : Nat) : (levs rs).count k = ed rs (k + 1) - ed rs k := by
  refine count_run _ _ _ (ed_mono rs k) (by rw [levs_len]; exact ed_le rs _) fun i x h => ?_
  obtain ⟨hi, rfl⟩ := levs_at h
  have h1 := key rs k i hi
  cases k with
  | zero =>
    show _ ↔ 0 ≤ i ∧ _
    omega
  | succ k =>
    have h2 := key rs k i hi
    omega
/-- what is left behind a step back -/
theorem take_levs (rs : List TRow) (n : Nat) : levs (rs.take n) = (levs rs).take n := by
  refine List.ext_getElem? fun i => ?_
  rw [List.getElem?_take]
  by_cases h : i < n
  · rw [if_pos h]
    unfold levs
    rw [List.getElem?_map, List.getElem?_map, List.length_take]
    by_cases hi : i < rs.length
    · rw [List.getElem?_range (by omega), List.getElem?_range hi]
      simp only [Option.map_some]
      unfold lev
      rw [List.take_take, Nat.min_eq_left (by omega)]
    · rw [List.getElem?_eq_none (by rw [List.length_range]; omega), List.getElem?_eq_none (by rw [List.length_range]; omega)]
      rfl
  · rw [if_neg h, List.getElem?_eq_none (by rw [levs_len, List.length_take]; omega)]
theorem dep_back {rs : List TRow} {k : Nat} (h : k < dep rs) : dep (rs.take (ed rs (k + 1))) = k := by
  obtain ⟨s, h1, h2, h3⟩ := ed_lt h
  rw [h2]
  have ha := key rs k s h3
  rw [h2] at ha
  have hb : lev rs s = dep (rs.take s) + if (rs[s]'h3).2.isNone then 1 else 0 := by
    unfold lev
    rw [List.take_add_one, List.getElem?_eq_getElem h3]
    exact dep_snoc _ _
  have hc : ¬ lev rs s ≤ k := fun z => by have := ha.mp z; omega
  have hle : dep (rs.take s) ≤ k := by
    by_cases h0 : s = 0
    · subst h0
      exact Nat.zero_le _
    · have hp := (key rs k (s - 1) (by omega)).mpr (by rw [h2]; omega)
      unfold lev at hp
      rw [show s - 1 + 1 = s by omega] at hp
      exact hp
  split at hb <;> omega
theorem starts_back (rs : List TRow) : ∀ n, n ≤ rs.length → starts (rs.take n) = (starts rs).filter (fun i => decide (i < n)) := by
  induction rs using snoc_ind with
  | h0 => intro n _; simp [starts]
  | h1 rs r ih =>
    intro n hn
    rw [List.length_append, List.length_singleton] at hn
    rw [starts_snoc, List.filter_append]
    by_cases h : n ≤ rs.length
    · rw [List.take_append_of_le_length h, ih n h]
      have : List.filter (fun i => decide (i < n)) (if r.2.isNone = true then [rs.length] else []) = [] := by
        split
        · simp [h]
        · rfl
      rw [this, List.append_nil]
    · have e : n = rs.length + 1 := by omega
      rw [List.take_of_length_le (by rw [List.length_append, List.length_singleton]; omega), starts_snoc]
      congr 1
      · refine (List.filter_eq_self.mpr fun i hi => ?_).symm
        have := starts_lt hi
        exact decide_eq_true (by omega)
      · split
        · simp [e]
        · rfl
theorem starts_asc (rs : List TRow) : (starts rs).Pairwise (· < ·) := List.pairwise_lt_range.filter _
theorem take_asc : ∀ {xs : List Nat} {k s : Nat}, xs.Pairwise (· < ·) → xs[k]? = some s → xs.filter (fun i => decide (i < s)) = xs.take k
  | [], k, s, _, h => by simp at h
  | x :: xs, 0, s, hp, h => by
    obtain rfl := Option.some.inj h
    rw [List.pairwise_cons] at hp
    rw [List.take_zero, List.filter_eq_nil_iff]
    intro i hi
    rcases List.mem_cons.mp hi with e | m
    · rw [e]; simp
    · have := hp.1 i m
      simp
      omega
  | x :: xs, k + 1, s, hp, h => by
    rw [List.pairwise_cons] at hp
    rw [List.getElem?_cons_succ] at h
    have hx : x < s := hp.1 s (List.mem_of_getElem? h)
    rw [List.filter_cons, if_pos (decide_eq_true hx), List.take_succ_cons, take_asc hp.2 h]
theorem starts_take {rs : List TRow} {k : Nat} (h : k < dep rs) : starts (rs.take (ed rs (k + 1))) = (starts rs).take k := by
  obtain ⟨s, h1, h2, h3⟩ := ed_lt h
  rw [h2, starts_back rs s (Nat.le_of_lt h3), take_asc (starts_asc rs) h1]
/-- the rows of levels up to k, as the law keeps them -/
theorem keep_take {α : Type} (f : α → Bool) : ∀ (xs : List α) (n : Nat), n ≤ xs.length → (∀ i x, xs[i]? = some x → (f x = true ↔ i < n)) → xs.filter f = xs.take n := by
  intro xs
  induction xs with
  | nil => intro n hn _; simp at hn; subst hn; rfl
  | cons x xs ih =>
    intro n hn h
    cases n with
    | zero =>
      rw [List.take_zero, List.filter_eq_nil_iff]
      intro y hy hf
      obtain ⟨i, hi⟩ := List.mem_iff_getElem?.mp hy
      have := (h i y hi).mp hf
      omega
    | succ n =>
      have hx : f x = true := (h 0 x rfl).mpr (by omega)
      rw [List.filter_cons, if_pos hx, List.take_succ_cons, ih n (by rw [List.length_cons] at hn; omega) fun i y e => by
        exact (h (i + 1) y (by rw [List.getElem?_cons_succ]; exact e)).trans ⟨fun z => by omega, fun z => by omega⟩]
end MR

namespace X2
open PySem PySem.Spec PyProof.Rows L2
/-! exceptions of own classes over an own base, with an __init__ that calls the base's and keeps one field -/
/-- what the text leaves of such a class C, its __init__ at fI, its field n -/
structure XO (K : PySem.W.Frag) (C fI : Addr) (n : Str) : Prop where
  ox : OexC K C
  xc : ExcC K C
  no : PySem.W.findIn K (.ref C) n = some none
  ii : PySem.W.findIn K (.ref C) "__init__" = some (some (.ref fI))
  ti : PySem.W.typeIn K (.ref fI) = some (.type "function")
theorem XO.xf {K : PySem.W.Frag} {C fI : Addr} {n : Str} (T : XO K C fI n) : XfC K C := ⟨T.xc.hg, T.xc.hk, T.xc.hs, T.xc.hd⟩
/-- the base B, whose __init__ is ValueError's -/
structure XB (K : PySem.W.Frag) (B : Addr) : Prop where
  rd : PySem.W.readsIn K B (.type "type") = true
  ga : PySem.W.specialIn K (.ref B) "__getattribute__" = some (some (.builtin "type.__getattribute__"))
  vi : PySem.W.findCls K (.ref B) (.type "type") "__init__" = some (.val (.builtin "ValueError.__init__"))
section
variable {X : Cx} {e : Expr} {es : List Expr} {ta : TA} {p1 p2 pos : Pos} {x : Str} {B : Addr}
/-- B.__init__(self, ..) -/
theorem pe_binit {pl : Sem Bool} (hg : Gl X x) (hm : X.mg x = some (.ref B)) (T : XB X.K B) (ha : PA X (e :: es) ta)
    (hdb : (x == ("__debug__" : Str)) = false := by decide)
    (hc : eval (.Call (.Attribute (.Name x p1) "__init__" p2) (e :: es) [] pos) X.env = (do
      let bv ← eval (.Name x p1) X.env
      standAt p2.atName
      let (fn, fst) ← holding [bv] (getMethod bv "__init__" pl)
      callWith pos fn fst (backTo pos (starEach (e :: es) X.env)) (backToKw pos (keywordEach [] X.env))) := by rfl)
    (he : starEach (e :: es) X.env = (false, eval e X.env) :: starEach es X.env := by rfl) (hpl : (backTo pos (starEach es X.env)).any (·.1) = false := by rfl) :
    PE X (.Call (.Attribute (.Name x p1) "__init__" p2) (e :: es) [] pos) (tVeI X.K ta) := by
  refine ⟨fun pins s σ H Q I h => ?_⟩
  refine PySem.W.methodCall_KW (ld_glob I hg hm ?_ hdb) hc
  refine PySem.W.method_cls I.kIn T.ga (PySem.W.cls_value I.kIn T.rd T.vi (by decide +kernel) ?_)
  show wpAny _ _ (callWith pos (Value.builtin "ValueError.__init__") [] (backTo pos (starEach (e :: es) X.env)) []) _ _ _
  refine PyProof.Rows.callWith_method1 (thn (ha.run pos pins _ σ H _ (I.tok _) h) fun us s1 hh => ?_) he hpl
  obtain ⟨vs, H1, I1, r1, a, C, ws, ev, hl, TC, ea, q⟩ := hh
  subst ev
  cases r1 with
  | @cons _ u0 _ ur ra rw' =>
    obtain rfl : u0 = Value.ref a := ra
    have hz : ur.length ≤ sizeLine := by
      rw [← Paired.length rw', sizeLine_eq]
      omega
    exact oinit_ok TC I1 ea hz fun s' J => ⟨.non, H1, J, rfl, q⟩
end
/-- isinstance(e, c), e the exception that the suite holds, with or without a dict -/
def hasD (H : Hp) (d : Option Addr) : Prop := d = none ∨ ∃ dd fs, d = some dd ∧ H dd = some (.xd fs)
def rIsX1 (K : PySem.W.Frag) (a : Addr) (cls : Value) (d : Option Addr) : List V → Hp → VK → Prop := fun xs H Q => ∃ (D : Addr) (c : V) (cv : Value) (b : Bool), cls = .ref D ∧ hasD H d ∧ ExcC K D ∧ xs = [.ref a, c] ∧ ClsV c cv ∧ PySem.W.kitOne K (.ref D) cv = some b ∧ Q (.bl b) H
def rIsXT (K : PySem.W.Frag) (a : Addr) (cls : Value) (d : Option Addr) : List V → Hp → VK → Prop := fun xs H Q => ∃ (D tp : Addr) (cs : List V) (us : List Value) (b : Bool), cls = .ref D ∧ hasD H d ∧ ExcC K D ∧ xs = [.ref a, .ref tp] ∧ H tp = some (.tup cs) ∧ Paired ClsV cs us ∧ PySem.W.kitAny K (.ref D) us = some b ∧ Q (.bl b) H
theorem isx_at {X : Cx} {pins : List (Addr × Obj)} {σ : L2.St} {H : Hp} {s : Shared} {a D : Addr} {d : Option Addr} {oe : Obj} (I : Inv X pins σ H s) (hz : Zc (.ref D) d oe) (hf : ∃ vs, oe.data = .fields vs) (hget : s.heap.get? a = some oe) (hd : hasD H d) : ∃ od, PySem.W.InstAt s.heap a oe D od := by
  obtain ⟨vs, hv⟩ := hf
  rcases hd with e | ⟨dd, fs, e, ha⟩
  · subst e
    refine ⟨none, hget, hz.1, by unfold PySem.W.notCls; rw [hv] <;> rfl, ?_⟩
    rw [hz.2]
    trivial
  · subst e
    have ok : ObjOk X.prog X.w H s.heap dd (.xd fs) := I.hok dd _ ha
    obtain ⟨mA, hns, hr⟩ := ok
    obtain ⟨od, ho, hl⟩ := lookIn_ns hns
    refine ⟨some od, hget, hz.1, by unfold PySem.W.notCls; rw [hv] <;> rfl, ?_⟩
    rw [hz.2]
    exact ho
theorem xc_cls {K : PySem.W.Frag} {D : Addr} (C : ExcC K D) : (PySem.W.clsIn K D).isSome = true := by
  obtain ⟨cd, hc, _⟩ := PySem.W.any_some C.hd
  rw [hc]
  rfl
theorem call_isX1 {X : Cx} {a : Addr} {cls : Value} {d : Option Addr} {oe : Obj} {pn : List (Addr × Obj)} (hz : Zc cls d oe) (hf : ∃ vs, oe.data = .fields vs) : CallR (X.suite a ((a, oe) :: pn)) (.builtin "isinstance") (rIsX1 X.K a cls d) := by
  intro pins s σ H xs us Q I r h
  obtain ⟨D, c, cv, b, rfl, hd, C, rfl, k, e, q⟩ := h
  obtain ⟨u1, u2, rfl, r1, r2⟩ := vals2 r
  cases (show u1 = Value.ref a from r1)
  have e2 := k.eq r2
  subst e2
  obtain ⟨hget, _⟩ := I.pin (a, oe) (List.mem_append.mpr (.inl List.mem_cons_self))
  obtain ⟨od, J⟩ := isx_at I hz hf hget hd
  exact PySem.W.kia_one (PySem.W.kitx_exc (xc_cls C) C.hg C.hk C.hs C.ha C.hn C.ht C.hm) I.kIn J e (fun z => nomatch z) fun tk => ⟨.bl b, H, I.kept (t' := tk) fun _ _ z => z, rfl, q⟩
theorem call_isXT {X : Cx} {a : Addr} {cls : Value} {d : Option Addr} {oe : Obj} {pn : List (Addr × Obj)} (hz : Zc cls d oe) (hf : ∃ vs, oe.data = .fields vs) : CallR (X.suite a ((a, oe) :: pn)) (.builtin "isinstance") (rIsXT X.K a cls d) := by
  intro pins s σ H xs us Q I r h
  obtain ⟨D, tp, cs, ws, b, rfl, hd, C, rfl, hT, k, e, q⟩ := h
  obtain ⟨u1, u2, rfl, r1, r2⟩ := vals2 r
  cases (show u1 = Value.ref a from r1)
  cases (show u2 = Value.ref tp from r2)
  obtain ⟨hget, _⟩ := I.pin (a, oe) (List.mem_append.mpr (.inl List.mem_cons_self))
  obtain ⟨_, its, rv, o, h1, h2, n, h3⟩ := (show ObjOk X.prog X.w H s.heap tp (.tup cs) from I.hok tp _ hT)
  have e3 := ClsV.all k rv
  subst e3
  obtain ⟨od, J⟩ := isx_at I hz hf hget hd
  obtain ⟨oc, od', dt, sl⟩ := o
  simp only at h2 h3
  subst h2 h3
  exact PySem.W.kia_tup (PySem.W.kitx_exc (xc_cls C) C.hg C.hk C.hs C.ha C.hn C.ht C.hm) I.kIn J h1 e (fun z => nomatch z) fun tk => ⟨.bl b, H, I.kept (t' := tk) fun _ _ z => z, rfl, q⟩
section
variable {K : PySem.W.Frag} {a D dd : Addr} {fs : List (Str × V)} {H : Hp} {Q : VK} {b : Bool}
theorem w_isX1 {c : V} {cv : Value} (C : ExcC K D) (hd : H dd = some (.xd fs)) (k : ClsV c cv) (e : PySem.W.kitOne K (.ref D) cv = some b) (q : Q (.bl b) H) : rIsX1 K a (.ref D) (some dd) [.ref a, c] H Q := ⟨D, c, cv, b, rfl, .inr ⟨dd, fs, rfl, hd⟩, C, rfl, k, e, q⟩
theorem w_isXT {tp : Addr} {cs : List V} {us : List Value} (C : ExcC K D) (hd : H dd = some (.xd fs)) (hT : H tp = some (.tup cs)) (k : Paired ClsV cs us) (e : PySem.W.kitAny K (.ref D) us = some b) (q : Q (.bl b) H) : rIsXT K a (.ref D) (some dd) [.ref a, .ref tp] H Q := ⟨D, tp, cs, us, b, rfl, .inr ⟨dd, fs, rfl, hd⟩, C, rfl, hT, k, e, q⟩
theorem w_xfv {C : Addr} {f : Str} {v : V} {σ : L2.St} {i : Nat} (hs : σ[i]? = some (some (.ref a))) (hd : H dd = some (.xd fs)) (hl : fs.lookup f = some v) (q : Q v H) : tXf a (.ref C) (some dd) C f (tVar i) σ H Q := ⟨_, hs, rfl, rfl, dd, fs, v, rfl, hd, hl, q⟩
end
/-- what C(v) leaves: a new dict with the one field -/
def InitEnd (C : Addr) (n : Str) (v : V) : Sp := fun vs H Q _ => ∃ a, vs = [.ref a, v] ∧ H a = some (exo a C none) ∧ ∀ dx, H dx = none → dx ≠ a → Q .non (upd (upd H dx (exd dx [(n, v)])) a (exo a C (some dx)))
section
variable {K : PySem.W.Frag} {σ : L2.St} {H : Hp} {Q : VK} {ta : TA} {D : Ends} {te t : TE} {ts : List TE} {acc : Str}
def rVeI (K : PySem.W.Frag) : List V → Hp → VK → Prop := fun vs H1 Q => ∃ (a C : Addr) (ws : List V), vs = .ref a :: ws ∧ ws.length ≤ 1000 ∧ OexC K C ∧ H1 a = some (exo a C none) ∧ Q .non H1
theorem w_veI (h : ta σ H fun vs H1 => rVeI K vs H1 Q) : tVeI K ta σ H Q := h
theorem use_veI {a C : Addr} {x : V} (T : OexC K C) (h : H a = some (exo a C none)) (q : Q .non H) : rVeI K [.ref a, x] H Q := ⟨a, C, [x], rfl, by simp, T, h, q⟩
theorem w_js {R : Str → Hp → Prop} (h : t σ H fun x H1 => ∃ y : Str, x = .str y ∧ (acc ++ y).length ≤ sizeLine ∧ tJs ts (acc ++ y) σ H1 R) : tJs (t :: ts) acc σ H R := h
theorem w_jn {R : Str → Hp → Prop} (h : R acc H) : tJs [] acc σ H R := h
theorem w_fmtI {i : Int} {j : Nat} (e : σ[j]? = some (some (.int i))) (hi : i.natAbs.log2 < 1920) (q : Q (.str (toString i)) H) : tFmtR (tVar j) σ H Q := ⟨_, e, .inr ⟨i, rfl, hi, q⟩⟩
theorem w_fmtS {y : Str} {j : Nat} (e : σ[j]? = some (some (.str y))) (hy : (reprText y).length ≤ sizeLine) (q : Q (.str (reprText y)) H) : tFmtR (tVar j) σ H Q := ⟨_, e, .inl ⟨y, rfl, hy, q⟩⟩
/-- self.f = e, the first and only one -/
theorem w_ost {f : Str} {to : TE} {a C : Addr} {y : V} {j k : Nat} (e1 : σ[k]? = some (some y)) (e2 : σ[j]? = some (some (.ref a))) (T : OexC K C) (no : PySem.W.findIn K (.ref C) f = some none) (h : H a = some (exo a C none)) (q : ∀ dx, H dx = none → dx ≠ a → D.nx σ (upd (upd H dx (exd dx [(f, y)])) a (exo a C (some dx)))) :
    tOst K f (tVar j) (tVar k) D σ H := ⟨y, e1, .ref a, e2, a, C, rfl, T, no, .inl ⟨h, q⟩⟩
theorem len_cat {x y : Str} {m n : Nat} (h1 : x.length ≤ m) (h2 : y.length ≤ n) : (x ++ y).length ≤ m + n := by
  have e : (x ++ y).length = x.length + y.length := by
    rw [TL.len_tl, TL.tl_append, List.length_append, ← TL.len_tl, ← TL.len_tl]
  omega
theorem len_int {i : Int} (h : i.natAbs < 10 ^ 60) : (Str.ofString (toString i)).length ≤ 61 := by
  by_cases hn : i < 0
  · have k := TL.numL_len (n := (0 - i).natAbs) (k := 60) (by decide) (by omega)
    have e : 0 - i = (((0 - i).natAbs : Nat) : Int) := by omega
    rw [PyProof.Rows.len_text_neg hn, e, TL.len_tl, TL.tl_num]
    omega
  · have k := TL.numL_len (n := i.natAbs) (k := 60) (by decide) h
    have e : i = ((i.natAbs : Nat) : Int) := by omega
    rw [e, TL.len_tl, TL.tl_num]
    omega
theorem log_int {i : Int} (h : i.natAbs < 10 ^ 60) : i.natAbs.log2 < 1920 := by
  have k : i.natAbs.log2 < 200 := PySem.Flt.log2_lt_of (by decide) (show i.natAbs < 2 ^ 200 by omega)
  omega
end
def rMk (C : Addr) (sp : Sp) : List V → Hp → XK → Prop := fun vs H1 Q => vs.length ≤ 1000 ∧ ∀ a, H1 a = none → sp (.ref a :: (vs ++ [])) (upd H1 a (exo a C none))
  (fun v H2 => v = .non ∧ ∃ (d : Addr) (fs : List (Str × V)), H2 a = some (exo a C (some d)) ∧ H2 d = some (exd d fs) ∧ H1 d = none ∧ Q (.ref C) (some d) (upd (del H2 a) d (.xd fs))) (fun _ _ _ => False)
theorem w_mkO {C : Addr} {sp : Sp} {ta : TA} {σ : L2.St} {H : Hp} {Q : XK} (h : ta σ H fun vs H1 => rMk C sp vs H1 Q) : tMkO C sp [] ta σ H Q := h
theorem use_mk {C : Addr} {n : Str} {v : V} {sp : Sp} {H1 : Hp} {Q : XK} (hsp : ∀ (vs : List V) (H : Hp) (Q : VK) (E : XK), InitEnd C n v vs H Q E → sp vs H Q E) (q : ∀ d, H1 d = none → Q (.ref C) (some d) (upd H1 d (.xd [(n, v)]))) : rMk C sp [v] H1 Q := by
  refine ⟨by simp, fun a ha => hsp _ _ _ _ ⟨a, rfl, upd_same, fun dx h1 h2 => ⟨rfl, dx, _, upd_same, by rw [upd_ne h2, upd_same], ?_, ?_⟩⟩⟩
  · rw [upd_ne h2] at h1
    exact h1
  · have h3 : H1 dx = none := by rw [upd_ne h2] at h1; exact h1
    have e : upd (del (upd (upd (upd H1 a (exo a C none)) dx (exd dx [(n, v)])) a (exo a C (some dx))) a) dx (.xd [(n, v)]) = upd H1 dx (.xd [(n, v)]) := by
      funext b
      by_cases hb : b = dx
      · rw [hb, upd_same, upd_same]
      · rw [upd_ne hb, upd_ne hb]
        by_cases hba : b = a
        · rw [hba, del_same, ha]
        · rw [del_ne hba, upd_ne hba, upd_ne hb, upd_ne hba]
    rw [e]
    exact q dx h3
end X2

namespace MW
open PySem
/-! words of digits, and the law's own walk over them -/
def dg (c : Nat) : Bool := decide (48 ≤ c) && decide (c ≤ 57)
def d1 (c : Nat) : Bool := decide (49 ≤ c) && decide (c ≤ 57)
def posW : List Nat → Bool
  | [] => false
  | c :: r => d1 c && r.all dg
def strip : List Nat → List Nat
  | [] => []
  | c :: r => if c = 45 then r else c :: r
def wholeW (l : List Nat) : Bool := decide (l = [48]) || posW (strip l)
def dv (l : List Nat) : Nat := NumText.digitsVal l
def vz (l : List Nat) : Int := if l.head? = some 45 then -(dv (strip l) : Int) else (dv (strip l) : Int)
def stp (s c : Nat) : Nat :=
  if s = 0 ∧ c = 45 then 1 else if s = 0 ∧ c = 48 then 2 else if (s = 0 ∨ s = 1) ∧ d1 c = true then 3 else if s = 3 ∧ dg c = true then 3
  else if (s = 2 ∨ s = 3) ∧ c = 47 then 4 else if s = 4 ∧ d1 c = true then 5 else if s = 5 ∧ dg c = true then 5 else 6
/-- '0123456789'.find(c) -/
def fnd (c : Nat) : Int := if dg c = true then (c : Int) - 48 else -1
def rd (s : Nat × Int × Int) (c : Nat) : Nat × Int × Int := (stp s.1 c, (if stp s.1 c = 3 then 10 * s.2.1 + fnd c else s.2.1), (if stp s.1 c = 5 then 10 * s.2.2 + fnd c else s.2.2))
theorem d1_dg {c : Nat} (h : d1 c = true) : dg c = true := by
  simp only [d1, dg, Bool.and_eq_true, decide_eq_true_eq] at *
  omega
theorem stp6 (c : Nat) : stp 6 c = 6 := by simp [stp]
theorem dead (r : List Nat) (t b : Int) : r.foldl rd (6, t, b) = (6, t, b) := by
  induction r with
  | nil => rfl
  | cons c r ih =>
    rw [List.foldl_cons]
    have e : rd (6, t, b) c = (6, t, b) := by simp [rd, stp6]
    rw [e, ih]
theorem stp3 {c : Nat} (h : dg c = true) : stp 3 c = 3 := by simp [stp, h]
theorem stp3n {c : Nat} (h : dg c = false) (h2 : c ≠ 47) : stp 3 c = 6 := by simp [stp, h, h2]
theorem stp5 {c : Nat} (h : dg c = true) : stp 5 c = 5 := by simp [stp, h]
theorem stp5n {c : Nat} (h : dg c = false) : stp 5 c = 6 := by simp [stp, h]
def fz (r : List Nat) (t : Int) : Int := r.foldl (fun a c => 10 * a + fnd c) t
theorem run3 (r : List Nat) (h47 : 47 ∉ r) : ∀ t b : Int, (r.all dg = true → r.foldl rd (3, t, b) = (3, fz r t, b)) ∧ (r.all dg = false → (r.foldl rd (3, t, b)).1 = 6) := by
  induction r with
  | nil => exact fun t b => ⟨fun _ => rfl, fun h => by simp at h⟩
  | cons c r ih =>
    intro t b
    have h2 : c ≠ 47 := fun e => h47 (by simp [e])
    have ih' := ih (fun z => h47 (List.mem_cons_of_mem _ z))
    rw [List.foldl_cons]
    cases hc : dg c with
    | true =>
      have e : rd (3, t, b) c = (3, 10 * t + fnd c, b) := by simp [rd, stp3 hc]
      rw [e]
      refine ⟨fun h => ?_, fun h => ?_⟩
      · rw [List.all_cons, hc, Bool.true_and] at h
        exact (ih' _ _).1 h
      · rw [List.all_cons, hc, Bool.true_and] at h
        exact (ih' _ _).2 h
    | false =>
      have e : rd (3, t, b) c = (6, t, b) := by simp [rd, stp3n hc h2]
      rw [e, dead]
      exact ⟨fun h => by simp [hc] at h, fun _ => rfl⟩
theorem run5 (r : List Nat) : ∀ t b : Int, (r.all dg = true → r.foldl rd (5, t, b) = (5, t, fz r b)) ∧ (r.all dg = false → (r.foldl rd (5, t, b)).1 = 6) := by
  induction r with
  | nil => exact fun t b => ⟨fun _ => rfl, fun h => by simp at h⟩
  | cons c r ih =>
    intro t b
    rw [List.foldl_cons]
    cases hc : dg c with
    | true =>
      have e : rd (5, t, b) c = (5, t, 10 * b + fnd c) := by simp [rd, stp5 hc]
      rw [e]
      refine ⟨fun h => ?_, fun h => ?_⟩
      · rw [List.all_cons, hc, Bool.true_and] at h
        exact (ih _ _).1 h
      · rw [List.all_cons, hc, Bool.true_and] at h
        exact (ih _ _).2 h
    | false =>
      have e : rd (5, t, b) c = (6, t, b) := by simp [rd, stp5n hc]
      rw [e, dead]
      exact ⟨fun h => by simp [hc] at h, fun _ => rfl⟩
theorem all_digits {r : List Nat} (h : r.all dg = true) : NumText.AllDigits r := fun c hc => by
  have := List.all_eq_true.mp h c hc
  simp only [dg, Bool.and_eq_true, decide_eq_true_eq] at this
  exact this
theorem fz_dv : ∀ (r : List Nat) (n : Nat), r.all dg = true → fz r (n : Int) = ((r.foldl (fun acc c => acc * 10 + (c - 48)) n : Nat) : Int)
  | [], _, _ => rfl
  | c :: r, n, h => by
    rw [List.all_cons, Bool.and_eq_true] at h
    have hc : 48 ≤ c ∧ c ≤ 57 := by
      have := h.1
      simp only [dg, Bool.and_eq_true, decide_eq_true_eq] at this
      exact this
    unfold fz
    rw [List.foldl_cons, List.foldl_cons, ← fz_dv r _ h.2]
    have e : 10 * (n : Int) + fnd c = ((n * 10 + (c - 48) : Nat) : Int) := by
      unfold fnd
      rw [if_pos h.1]
      omega
    rw [e]
    rfl
theorem fz_cons {c : Nat} {r : List Nat} (h : (c :: r).all dg = true) : fz r (10 * 0 + fnd c) = (dv (c :: r) : Int) := by
  have e := fz_dv (c :: r) 0 h
  unfold fz at e
  rw [List.foldl_cons] at e
  exact e
theorem pos_all {l : List Nat} (h : posW l = true) : l.all dg = true ∧ l ≠ [] := by
  cases l with
  | nil => simp [posW] at h
  | cons c r =>
    simp only [posW, Bool.and_eq_true] at h
    exact ⟨by simp only [List.all_cons, d1_dg h.1, h.2, Bool.and_self], by simp⟩
/-- what the walk says of a list without a slash -/
def Ra (a : List Nat) (s : Nat × Int × Int) : Prop := s.2.2 = 0 ∧ (s.1 = 0 ∨ s.1 = 1 ∨ s.1 = 2 ∨ s.1 = 3 ∨ s.1 = 6) ∧ ((s.1 = 2 ∨ s.1 = 3) ↔ wholeW a = true) ∧ (wholeW a = true → s.2.1 = (dv (strip a) : Int))
theorem rd0 {c : Nat} {s : Nat} (h : stp s c ≠ 3) (h5 : stp s c ≠ 5) (t b : Int) : rd (s, t, b) c = (stp s c, t, b) := by simp [rd, h, h5]
theorem posW_45 (r : List Nat) : posW (45 :: r) = false := by simp [posW, d1]
theorem posW_48 (r : List Nat) : posW (48 :: r) = false := by simp [posW, d1]
theorem strip_45 (r : List Nat) : strip (45 :: r) = r := rfl
theorem strip_ot {c : Nat} (r : List Nat) (h : c ≠ 45) : strip (c :: r) = c :: r := by
  show (if c = 45 then r else c :: r) = _
  rw [if_neg h]
theorem whole_48 (r : List Nat) : wholeW (48 :: r) = decide (r = []) := by
  unfold wholeW
  rw [strip_ot r (by decide), posW_48, Bool.or_false]
  simp
theorem whole_45 (r : List Nat) : wholeW (45 :: r) = posW r := by
  unfold wholeW
  rw [strip_45]
  simp
theorem whole_ot {c : Nat} (r : List Nat) (h : c ≠ 45) (h2 : c ≠ 48) : wholeW (c :: r) = posW (c :: r) := by
  unfold wholeW
  rw [strip_ot r h]
  simp [h2]
theorem run2 (r : List Nat) (h47 : 47 ∉ r) (t b : Int) : r.foldl rd (2, t, b) = if r = [] then (2, t, b) else (6, t, b) := by
  cases r with
  | nil => rfl
  | cons c r =>
    have h2 : c ≠ 47 := fun e => h47 (by simp [e])
    have e : stp 2 c = 6 := by simp [stp, h2]
    rw [List.foldl_cons, rd0 (by rw [e]; decide) (by rw [e]; decide), e, dead, if_neg (by simp)]
theorem run_pos {c s : Nat} {r : List Nat} (hs : s = 0 ∨ s = 1) (h45 : s = 0 → c ≠ 45 ∧ c ≠ 48) (h47 : 47 ∉ c :: r) :
    (posW (c :: r) = true → (c :: r).foldl rd (s, 0, 0) = (3, (dv (c :: r) : Int), 0)) ∧ (posW (c :: r) = false → ((c :: r).foldl rd (s, 0, 0)).1 = 6 ∧ ((c :: r).foldl rd (s, 0, 0)).2.2 = 0) := by
  have h2 : c ≠ 47 := fun e => h47 (by simp [e])
  have hr : 47 ∉ r := fun z => h47 (List.mem_cons_of_mem _ z)
  cases hc : d1 c with
  | true =>
    have e : stp s c = 3 := by
      rcases hs with rfl | rfl
      · simp [stp, hc, (h45 rfl).1, (h45 rfl).2]
      · simp [stp, hc]
    have e2 : rd (s, 0, 0) c = (3, 10 * 0 + fnd c, 0) := by simp [rd, e]
    rw [List.foldl_cons, e2]
    cases ha : r.all dg with
    | true =>
      rw [(run3 r hr _ _).1 ha, fz_cons (by rw [List.all_cons, d1_dg hc, ha] <;> rfl)]
      exact ⟨fun _ => rfl, fun h => by simp [posW, hc, ha] at h⟩
    | false =>
      refine ⟨fun h => by simp [posW, hc, ha] at h, fun _ => ⟨(run3 r hr _ _).2 ha, ?_⟩⟩
      have key : ∀ (r : List Nat), 47 ∉ r → ∀ t : Int, (r.foldl rd (3, t, 0)).2.2 = 0 := by
        intro r
        induction r with
        | nil => exact fun _ t => rfl
        | cons c r ih =>
          intro h t
          have h2 : c ≠ 47 := fun e => h (by simp [e])
          rw [List.foldl_cons]
          cases hc : dg c with
          | true =>
            have e : rd (3, t, 0) c = (3, 10 * t + fnd c, 0) := by simp [rd, stp3 hc]
            rw [e]
            exact ih (fun z => h (List.mem_cons_of_mem _ z)) _
          | false =>
            have e : rd (3, t, 0) c = (6, t, 0) := by simp [rd, stp3n hc h2]
            rw [e, dead]
      exact key r hr _
  | false =>
    have e : stp s c = 6 := by
      rcases hs with rfl | rfl
      · simp [stp, hc, (h45 rfl).1, (h45 rfl).2]
      · simp [stp, hc]
    rw [List.foldl_cons, rd0 (by rw [e]; decide) (by rw [e]; decide), e, dead]
    exact ⟨fun h => by simp [posW, hc] at h, fun _ => ⟨rfl, rfl⟩⟩
theorem runA (a : List Nat) (h47 : 47 ∉ a) : Ra a (a.foldl rd (0, 0, 0)) := by
  cases a with
  | nil => exact ⟨rfl, .inl rfl, by simp [wholeW, strip, posW], by simp [wholeW, strip, posW]⟩
  | cons c r =>
    have hr : 47 ∉ r := fun z => h47 (List.mem_cons_of_mem _ z)
    by_cases h45 : c = 45
    · subst h45
      have e : stp 0 45 = 1 := by decide
      rw [List.foldl_cons, rd0 (by rw [e]; decide) (by rw [e]; decide), e]
      unfold Ra
      rw [whole_45]
      have es : strip (45 :: r) = r := strip_45 r
      rw [es]
      cases r with
      | nil => exact ⟨rfl, .inr (.inl rfl), by simp [posW], by simp [posW]⟩
      | cons d r =>
        have k := run_pos (c := d) (s := 1) (r := r) (.inr rfl) (fun z => by cases z) hr
        cases hp : posW (d :: r) with
        | true =>
          rw [k.1 hp]
          exact ⟨rfl, .inr (.inr (.inr (.inl rfl))), by simp, fun _ => rfl⟩
        | false =>
          obtain ⟨k1, k2⟩ := k.2 hp
          exact ⟨k2, .inr (.inr (.inr (.inr k1))), by rw [k1]; simp, by simp⟩
    · by_cases h48 : c = 48
      · subst h48
        have e : stp 0 48 = 2 := by decide
        rw [List.foldl_cons, rd0 (by rw [e]; decide) (by rw [e]; decide), e, run2 r hr]
        unfold Ra
        rw [whole_48]
        by_cases hn : r = []
        · subst hn
          exact ⟨rfl, .inr (.inr (.inl rfl)), by simp, fun _ => by decide⟩
        · rw [if_neg hn]
          exact ⟨rfl, .inr (.inr (.inr (.inr rfl))), by simp [hn], by simp [hn]⟩
      · have k := run_pos (c := c) (s := 0) (r := r) (.inl rfl) (fun _ => ⟨h45, h48⟩) h47
        unfold Ra
        rw [whole_ot r h45 h48]
        have es : strip (c :: r) = c :: r := strip_ot r h45
        rw [es]
        cases hp : posW (c :: r) with
        | true =>
          rw [k.1 hp]
          exact ⟨rfl, .inr (.inr (.inr (.inl rfl))), by simp, fun _ => rfl⟩
        | false =>
          obtain ⟨k1, k2⟩ := k.2 hp
          exact ⟨k2, .inr (.inr (.inr (.inr k1))), by rw [k1]; simp, by simp⟩
/-- behind a slash -/
theorem runB (b : List Nat) (t : Int) : (posW b = true → b.foldl rd (4, t, 0) = (5, t, (dv b : Int))) ∧ (posW b = false → (b.foldl rd (4, t, 0)).1 = 4 ∨ (b.foldl rd (4, t, 0)).1 = 6) := by
  cases b with
  | nil => exact ⟨fun h => by simp [posW] at h, fun _ => .inl rfl⟩
  | cons c r =>
    cases hc : d1 c with
    | true =>
      have e : stp 4 c = 5 := by simp [stp, hc]
      have e2 : rd (4, t, 0) c = (5, t, 10 * 0 + fnd c) := by simp [rd, e]
      rw [List.foldl_cons, e2]
      cases ha : r.all dg with
      | true =>
        rw [(run5 r _ _).1 ha, fz_cons (by rw [List.all_cons, d1_dg hc, ha] <;> rfl)]
        exact ⟨fun _ => rfl, fun h => by simp [posW, hc, ha] at h⟩
      | false => exact ⟨fun h => by simp [posW, hc, ha] at h, fun _ => .inr ((run5 r _ _).2 ha)⟩
    | false =>
      have e : stp 4 c = 6 := by simp [stp, hc]
      rw [List.foldl_cons, rd0 (by rw [e]; decide) (by rw [e]; decide), e, dead]
      exact ⟨fun h => by simp [posW, hc] at h, fun _ => .inr rfl⟩
theorem split47 : ∀ l : List Nat, 47 ∉ l ∨ ∃ a b, l = a ++ 47 :: b ∧ 47 ∉ a
  | [] => .inl (by simp)
  | c :: r => by
    by_cases h : c = 47
    · exact .inr ⟨[], r, by simp [h], by simp⟩
    · rcases split47 r with k | ⟨a, b, rfl, k⟩
      · exact .inl (by simp; exact ⟨fun e => h e.symm, k⟩)
      · exact .inr ⟨c :: a, b, rfl, by simp; exact ⟨fun e => h e.symm, k⟩⟩
theorem whole_free {l : List Nat} (h : wholeW l = true) : 47 ∉ l := by
  intro hm
  cases l with
  | nil => simp at hm
  | cons c r =>
    have key : ∀ m : List Nat, posW m = true → 47 ∉ m := fun m hp z => by
      have := all_digits (pos_all hp).1 47 z
      omega
    by_cases h45 : c = 45
    · subst h45
      rw [whole_45] at h
      rcases List.mem_cons.mp hm with e | z
      · omega
      · exact key r h z
    · by_cases h48 : c = 48
      · subst h48
        rw [whole_48] at h
        simp at h
        subst h
        simp at hm
      · rw [whole_ot r h45 h48] at h
        exact key _ h hm
/-- the walk's end -/
inductive End (l : List Nat) : Nat × Int × Int → Prop where
  | flat (s : Nat × Int × Int) (h : 47 ∉ l) (h5 : s.1 ≠ 5) (hw : (s.1 = 2 ∨ s.1 = 3) ↔ wholeW l = true) : End l s
  | good (a b : List Nat) (e : l = a ++ 47 :: b) (h : 47 ∉ a) (ha : wholeW a = true) (hb : posW b = true) : End l (5, (dv (strip a) : Int), (dv b : Int))
  | bad (s : Nat × Int × Int) (a b : List Nat) (e : l = a ++ 47 :: b) (h : 47 ∉ a) (hn : (wholeW a && posW b) = false) (h5 : s.1 ≠ 5 ∧ s.1 ≠ 2 ∧ s.1 ≠ 3) : End l s
theorem run_end (l : List Nat) : End l (l.foldl rd (0, 0, 0)) := by
  rcases split47 l with h | ⟨a, b, rfl, h⟩
  · obtain ⟨h1, h2, h3, h4⟩ := runA l h
    exact .flat _ h (by omega) h3
  · have ka := runA a h
    have hs : ∃ s t z, a.foldl rd (0, 0, 0) = (s, t, z) := ⟨_, _, _, rfl⟩
    obtain ⟨s, t, z, es⟩ := hs
    have kb : (a ++ 47 :: b).foldl rd (0, 0, 0) = b.foldl rd (rd (s, t, z) 47) := by rw [List.foldl_append, List.foldl_cons, es]
    rw [es] at ka
    obtain ⟨h1, h2, h3, h4⟩ := ka
    dsimp only at h1 h2 h3 h4
    subst h1
    by_cases hw : s = 2 ∨ s = 3
    · have e4 : stp s 47 = 4 := by rcases hw with rfl | rfl <;> decide
      have e5 : rd (s, t, 0) 47 = (4, t, 0) := by rw [rd0 (by rw [e4]; decide) (by rw [e4]; decide), e4]
      have ha := h3.mp hw
      rw [kb, e5]
      cases hp : posW b with
      | true =>
        rw [(runB b t).1 hp, h4 ha]
        exact .good a b rfl h ha hp
      | false => exact .bad _ a b rfl h (by rw [hp, Bool.and_false]) (by rcases (runB b t).2 hp with e | e <;> rw [e] <;> decide)
    · have e4 : stp s 47 = 6 := by rcases h2 with rfl | rfl | rfl | rfl | rfl <;> first | decide | exact absurd (by simp) hw
      have e5 : rd (s, t, 0) 47 = (6, t, 0) := by rw [rd0 (by rw [e4]; decide) (by rw [e4]; decide), e4]
      rw [kb, e5, dead]
      exact .bad _ a b rfl h (by rw [Bool.and_eq_false_iff]; exact .inl (Bool.eq_false_iff.mpr fun z => hw (h3.mpr z))) ⟨by simp, by simp, by simp⟩
theorem dv_zero (l : List Nat) : dv (48 :: l) = dv l := rfl
theorem dv_pos {l : List Nat} (h : posW l = true) : 0 < dv l := by
  cases l with
  | nil => simp [posW] at h
  | cons c r =>
    simp only [posW, Bool.and_eq_true, d1, decide_eq_true_eq] at h
    have key : ∀ (r : List Nat) (n : Nat), 0 < n → 0 < r.foldl (fun acc c => acc * 10 + (c - 48)) n := by
      intro r
      induction r with
      | nil => exact fun n h => h
      | cons d r ih => exact fun n h => ih (n * 10 + (d - 48)) (by omega)
    show 0 < r.foldl (fun acc c => acc * 10 + (c - 48)) (0 * 10 + (c - 48))
    exact key r _ (by omega)
theorem dv_lt : ∀ (l : List Nat), l.all dg = true → dv l < 10 ^ l.length := by
  have key : ∀ (r : List Nat) (n k : Nat), r.all dg = true → n < 10 ^ k → r.foldl (fun acc c => acc * 10 + (c - 48)) n < 10 ^ (k + r.length) := by
    intro r
    induction r with
    | nil => exact fun n k _ h => h
    | cons c r ih =>
      intro n k h hn
      rw [List.all_cons, Bool.and_eq_true] at h
      have hc : c ≤ 57 := by
        have := h.1
        simp only [dg, Bool.and_eq_true, decide_eq_true_eq] at this
        omega
      have := ih (n * 10 + (c - 48)) (k + 1) h.2 (by rw [Nat.pow_succ]; omega)
      rw [List.foldl_cons, List.length_cons, show k + (r.length + 1) = k + 1 + r.length by omega]
      exact this
  intro l h
  have := key l 0 0 h (by decide)
  rw [Nat.zero_add] at this
  exact this
end MW

namespace MT
open PySem PySem.Spec PyProof.Rows L2 MW
open SX (S S_len S_cat S_inj slice_to slice_from num_S)
/-! texts as lists of codes -/
theorem vS_eq {l m : List Nat} : (V.str (S l) = V.str (S m)) ↔ l = m := ⟨fun h => S_inj (V.str.inj h), fun h => by rw [h]⟩
section
variable {A B : Prop} {l m : List Nat} {z : Str}
theorem w_iteS (m : List Nat) (e : z = S m) (h1 : l = m → A) (h2 : l ≠ m → B) : if decide (V.str (S l) = V.str z) = true then A else B := by
  subst e
  by_cases h : l = m
  · rw [if_pos (decide_eq_true (vS_eq.mpr h))]; exact h1 h
  · rw [if_neg (fun k => h (vS_eq.mp (of_decide_eq_true k)))]; exact h2 h
theorem w_iteSN (m : List Nat) (e : z = S m) (h1 : l ≠ m → A) (h2 : l = m → B) : if (!decide (V.str (S l) = V.str z)) = true then A else B := by
  subst e
  by_cases h : l = m
  · rw [decide_eq_true (vS_eq.mpr h)]; exact h2 h
  · rw [decide_eq_false (fun k => h (vS_eq.mp k))]; exact h1 h
end
theorem ascii_S (l : List Nat) : Txt.isascii (S l) = l.all (· < 128) := by
  unfold Txt.isascii S
  simp
theorem starts1 (l : List Nat) (c : Nat) : Txt.startswith (S l) (S [c]) = decide (l.head? = some c) := by
  cases l with
  | nil => simp [Txt.startswith, S, Str.length]
  | cons d r =>
    simp only [Txt.startswith, S_len, List.length_cons, List.length_nil]
    have e : ∀ z : Nat, (⟨#[z]⟩ : Str).length = 1 := fun _ => rfl
    by_cases h : d = c
    · subst h
      simp [Builtin.Str.subAt, S, e]
    · simp [Builtin.Str.subAt, S, h, e]
theorem digit_S (l : List Nat) (h : l.all (· < 128) = true) : Txt.isdigit (S l) = (!l.isEmpty && l.all dg) := by
  have e : ∀ l : List Nat, l.all (· < 128) = true → l.all Unicode.isDigit = l.all dg := by
    intro l
    induction l with
    | nil => exact fun _ => rfl
    | cons c r ih =>
      intro h
      rw [List.all_cons, Bool.and_eq_true] at h
      have k := cls_isdigit c (of_decide_eq_true h.1)
      rw [List.all_cons, List.all_cons, ih h.2, k]
      congr 1
      have k3 : ∀ c, c < 128 → inR 48 57 ⟨#[c]⟩ = dg c := by decide +kernel
      exact k3 c (of_decide_eq_true h.1)
  unfold Txt.isdigit
  rw [S_len]
  have e2 : (S l).cps.all Unicode.isDigit = l.all Unicode.isDigit := by simp [S]
  rw [e2, e l h]
  cases l <;> simp
theorem pos_txt (l : List Nat) : posW l = (Txt.isascii (S l) && (Txt.isdigit (S l) && !Txt.startswith (S l) (S [48]))) := by
  rw [ascii_S]
  cases h : l.all (· < 128) with
  | true =>
    rw [digit_S l h, starts1, Bool.true_and]
    cases l with
    | nil => rfl
    | cons c r =>
      simp only [posW, List.isEmpty_cons, Bool.not_false, Bool.true_and, List.all_cons, List.head?_cons, Option.some.injEq, d1, dg]
      cases r.all dg with
      | false => simp
      | true =>
        simp only [Bool.and_true]
        by_cases h1 : 49 ≤ c
        · by_cases h2 : c ≤ 57
          · simp [h1, h2, show 48 ≤ c by omega, show c ≠ 48 by omega]
          · simp [h1, h2]
        · by_cases h2 : c = 48
          · simp [h2]
          · simp [h1, show ¬ 48 ≤ c by omega]
  | false =>
    rw [Bool.false_and]
    cases l with
    | nil => simp at h
    | cons c r =>
      refine Bool.eq_false_iff.mpr fun k => ?_
      have := (pos_all k).1
      have k2 : (c :: r).all (· < 128) = true := List.all_eq_true.mpr fun d hd => by
        have := all_digits this d hd
        exact decide_eq_true (by omega)
      rw [k2] at h
      cases h
theorem cut_to {l : List Nat} {i : Int} (h : 0 ≤ i) : cutS (S l) none (some i) = S (l.take i.toNat) := by rw [C8.cutS_slice, slice_to h]
theorem cut_from {l : List Nat} {i : Int} (h : 0 ≤ i) : cutS (S l) (some i) none = S (l.drop i.toNat) := by rw [C8.cutS_slice, slice_from h]
theorem rp_S (l : List Nat) : Txt.removeprefix (S l) (S [45]) = S (strip l) := by
  rw [StrLaws.removeprefix_eq]
  have e := starts1 l 45
  unfold Txt.startswith at e
  cases l with
  | nil => rfl
  | cons c r =>
    by_cases h : c = 45
    · subst h
      rw [if_pos (by rw [e]; simp), strip_45]
      simp [S, Str.length]
    · rw [if_neg (by rw [e]; simp [h]), strip_ot r h]
theorem find_dg {c : Nat} (h : dg c = true) : Txt.find (S [48, 49, 50, 51, 52, 53, 54, 55, 56, 57]) (S [c]) = fnd c := by
  have hc : 48 ≤ c ∧ c ≤ 57 := by simpa [dg] using h
  have : c = 48 ∨ c = 49 ∨ c = 50 ∨ c = 51 ∨ c = 52 ∨ c = 53 ∨ c = 54 ∨ c = 55 ∨ c = 56 ∨ c = 57 := by omega
  rcases this with e | e | e | e | e | e | e | e | e | e <;> subst e <;> decide +kernel
/-- the text of a whole number -/
def nz (i : Int) : List Nat := if i < 0 then 45 :: TL.numL i.natAbs else TL.numL i.natAbs
theorem S_nz (i : Int) : Str.ofString (toString i) = S (nz i) := by
  unfold nz
  by_cases h : i < 0
  · rw [if_pos h]
    refine TL.ext_tl ?_
    have e : toString i = "-" ++ toString ((i.natAbs : Nat) : Int) := by
      rw [PyProof.Rows.toString_neg h]
      congr 2
      omega
    rw [e, TL.tl_ofString, String.toList_append, List.map_append]
    have e2 := TL.tl_num i.natAbs
    rw [TL.tl_ofString] at e2
    rw [e2]
    rfl
  · rw [if_neg h]
    have e : i = ((i.natAbs : Nat) : Int) := by omega
    exact (congrArg (fun x : Int => Str.ofString (toString x)) e).trans (num_S i.natAbs)
theorem posW_snoc {l : List Nat} {c : Nat} (h : posW l = true) (hc : dg c = true) : posW (l ++ [c]) = true := by
  cases l with
  | nil => simp [posW] at h
  | cons d r =>
    simp only [posW, Bool.and_eq_true, List.cons_append, List.all_append, List.all_cons, List.all_nil] at *
    exact ⟨h.1, h.2, hc, trivial⟩
theorem numL_posW : ∀ n : Nat, 0 < n → posW (TL.numL n) = true := by
  intro n
  induction n using Nat.strongRecOn with
  | _ n ih =>
    intro h
    by_cases h10 : n < 10
    · rw [TL.numL_lt h10]
      simp [posW, d1]
      omega
    · rw [TL.numL_step (by omega)]
      exact posW_snoc (ih (n / 10) (by omega) (by omega)) (by simp [dg]; omega)
theorem dv_num (n : Nat) : dv (TL.numL n) = n := TL.numL_val n
theorem head_num (n : Nat) : (TL.numL n).head? ≠ some 45 := by
  intro h
  have hm : 45 ∈ TL.numL n := List.mem_of_mem_head? h
  have := TL.numL_digits n 45 hm
  omega
theorem strip_num (n : Nat) : strip (TL.numL n) = TL.numL n := by
  have k := head_num n
  cases h : TL.numL n with
  | nil => rfl
  | cons c r =>
    rw [h] at k
    exact strip_ot r (by simpa using k)
theorem nz_whole (i : Int) : wholeW (nz i) = true := by
  unfold nz
  by_cases h : i < 0
  · rw [if_pos h, whole_45]
    exact numL_posW _ (by omega)
  · rw [if_neg h]
    by_cases h0 : i.natAbs = 0
    · rw [h0]
      decide
    · unfold wholeW
      rw [strip_num, numL_posW _ (by omega), Bool.or_true]
theorem nz_val (i : Int) : vz (nz i) = i := by
  unfold vz nz
  by_cases h : i < 0
  · rw [if_pos h, if_pos (by simp), strip_45, dv_num]
    omega
  · rw [if_neg h, if_neg (head_num _), strip_num, dv_num]
    omega
theorem numL_nz {n : Nat} : nz (n : Int) = TL.numL n := by
  unfold nz
  rw [if_neg (by omega)]
  simp
section
variable {σ : L2.St} {H : Hp} {Q : VK} {to te : TE} {r : V → List V → Hp → VK → Prop}
theorem w_m0 (h : to σ H fun x H1 => (∃ a, x = .str a) ∧ r x [] H1 Q) : tM0 r to σ H Q := h
theorem w_m1 (h : to σ H fun x H1 => (∃ a, x = .str a) ∧ te σ H1 fun y H2 => r x [y] H2 Q) : tM1 r to te σ H Q := h
theorem w_slice {r : V → Option Int → Option Int → Hp → VK → Prop} {te : TE} {tl th : TO} (h : te σ H fun x H1 => tl σ H1 fun l H2 => th σ H2 fun u H3 => r x l u H3 Q) : L2.tSl r te tl th σ H Q := h
theorem w_nopart {R : Option Int → Hp → Prop} (h : R none H) : tNoPart σ H R := h
theorem w_part {t : TE} {R : Option Int → Hp → Prop} (h : t σ H fun x H1 => ∃ i, x = .int i ∧ R (some i) H1) : tPart t σ H R := h
theorem w_cut {l : List Nat} {lo hi : Option Int} (hl : l.length ≤ 100000) (q : Q (.str (cutS (S l) lo hi)) H) : rSlS (.str (S l)) lo hi H Q := ⟨_, rfl, by rw [S_len]; exact Nat.le_trans hl (by decide), q⟩
theorem w_cutTo {l : List Nat} {i : Int} (hl : l.length ≤ 100000) (hi : 0 ≤ i) (q : Q (.str (S (l.take i.toNat))) H) : rSlS (.str (S l)) none (some i) H Q := w_cut hl (by rw [cut_to hi]; exact q)
theorem w_cutFrom {l : List Nat} {i : Int} (hl : l.length ≤ 100000) (hi : 0 ≤ i) (q : Q (.str (S (l.drop i.toNat))) H) : rSlS (.str (S l)) (some i) none H Q := w_cut hl (by rw [cut_from hi]; exact q)
def rAddS : R2 := fun x y H Q => ∃ i j, x = .str i ∧ y = .str j ∧ i.length + j.length ≤ sizeLine ∧ Q (.str (i ++ j)) H
theorem op_addS {X : Cx} : OpR X (binaryOp .Add) rAddS := op_add_str
theorem w_addS {l m : List Nat} (hl : l.length + m.length ≤ 100000) (q : Q (.str (S (l ++ m))) H) : rAddS (.str (S l)) (.str (S m)) H Q := ⟨_, _, rfl, rfl, by rw [S_len, S_len]; exact Nat.le_trans hl (by decide), by rw [S_cat]; exact q⟩
theorem w_ixS {l : List Nat} {k : Int} {c : Nat} (hl : l.length ≤ 100000) (a : atI l k = some c) (q : Q (.str (S [c])) H) : rIxS (.str (S l)) (.int k) H Q := ⟨_, _, c, rfl, rfl, by rw [S_len]; exact Nat.le_trans hl (by decide), a, q⟩
theorem pickN {l : List Nat} {k : Int} (h0 : 0 ≤ k) (h : k < l.length) : ∃ c, atI l k = some c ∧ c ∈ l := by
  obtain ⟨j, rfl⟩ := Int.eq_ofNat_of_zero_le h0
  have hj : j < l.length := by omega
  exact ⟨l[j], atI_nat (j := j) (List.getElem?_eq_getElem hj), List.getElem_mem hj⟩
def rInS : R2 := fun x y H Q => ∃ (c : Nat) (z : Str), x = .str ⟨#[c]⟩ ∧ y = .str z ∧ Q (.bl (decide (c ∈ z.cps.toList))) H
def rNotInS : R2 := fun x y H Q => ∃ (c : Nat) (z : Str), x = .str ⟨#[c]⟩ ∧ y = .str z ∧ Q (.bl (!decide (c ∈ z.cps.toList))) H
theorem op_inS {X : Cx} : OpR X (compareOp .In) rInS := op_in_sign
theorem op_notInS {X : Cx} : OpR X (compareOp .NotIn) rNotInS := op_notIn_sign
theorem w_in1 {c : Nat} {m : List Nat} (q : Q (.bl (decide (c ∈ m))) H) : rInS (.str (S [c])) (.str (S m)) H Q := ⟨c, _, rfl, rfl, q⟩
theorem w_notin1 {c : Nat} {m : List Nat} (q : Q (.bl (!decide (c ∈ m))) H) : rNotInS (.str (S [c])) (.str (S m)) H Q := ⟨c, _, rfl, rfl, q⟩
theorem w_chain {r r' : R2} {ta tb tc : TE} (h : ta σ H fun x H1 => tb σ H1 fun y H2 => r x y H2 fun z H3 => ∃ k, z = .bl k ∧ (if k = true then tc σ H3 fun w' H4 => r' y w' H4 Q else Q (.bl false) H3)) : tChain r r' ta tb tc σ H Q := h
theorem w_rng3 {tl : TA} {R : It → Hp → Prop} (h : tl σ H fun vs H1 => ∃ (i j c : Int) (n : Nat), vs = [.int i, .int j, .int c] ∧ RgC i j c n ∧ R (Itc i c n) H1) : iRng3 tl σ H R := h
def rLenS : List V → Hp → VK → Prop := fun xs H Q => ∃ z : Str, xs = [.str z] ∧ z.length ≤ sizeLine ∧ Q (.int z.length) H
theorem call_lenS {X : Cx} : CallR X (.builtin "len") rLenS := call_len_str
theorem w_lenS {l : List Nat} (hl : l.length ≤ 100000) (q : Q (.int l.length) H) : rLenS [.str (S l)] H Q := ⟨_, rfl, by rw [S_len]; exact Nat.le_trans hl (by decide), by rw [S_len]; exact q⟩
theorem rg0 {n : Nat} (h : n < 64) : RgC (n : Int) (n : Int) 64 0 := by
  have k : ∀ n : Nat, n < 64 → Builtin.Range.small (n : Int) (n : Int) 64 = true := by decide +kernel
  exact ⟨by decide, by decide, k n h, by simp [Builtin.Range.rangeSize]⟩
theorem pe_strS {X : Cx} {z : Str} {l : List Nat} {j : Nat} {pos : Pos} (e : z = S l) : PE X (.Constant (.str z) j pos) (tC (.str (S l))) := by
  subst e
  exact pe_str
end
end MT

local macro_rules | `(tactic| walk_at "len") => `(tactic| first
  | omega
  | (simp only [List.length_append, List.length_cons, List.length_nil, List.length_take, List.length_drop, List.length_map]; omega)
  | decide)
local macro_rules | `(tactic| walk_at "w1") => `(tactic| first
  | with_reducible refine MT.w_m0 ?_
  | with_reducible refine MT.w_m1 ?_
  | with_reducible refine MT.w_slice ?_
  | with_reducible refine MT.w_nopart ?_
  | with_reducible refine MT.w_part ?_
  | ((with_reducible refine' MT.w_cutTo ?wh ?wa ?_); (case wh => walk_at "len"); (case wa => omega))
  | ((with_reducible refine' MT.w_cutFrom ?wh ?wa ?_); (case wh => walk_at "len"); (case wa => omega))
  | ((with_reducible refine' MT.w_addS ?wh ?_); (case wh => walk_at "len"))
  | ((with_reducible refine' MT.w_ixS ?wh ?wa ?_); (case wh => walk_at "len"); (case wa => assumption))
  | with_reducible refine MT.w_in1 ?_
  | with_reducible refine MT.w_notin1 ?_
  | with_reducible refine MT.w_chain ?_
  | with_reducible refine MT.w_rng3 ?_
  | ((with_reducible refine' MT.w_lenS ?wh ?_); (case wh => walk_at "len"))
  | with_reducible refine ⟨⟨_, rfl⟩, ?_⟩
  | with_reducible refine ⟨trivial, ?_⟩
  | with_reducible refine ⟨_, _, rfl, rfl, ?_⟩
  | fail "w1")

namespace L
open PySem PySem.Spec PyProof.Rows L2 Z
def topS (i : Nat) : Stmt := PySem.Challenge.pw_papersat_k22_propagation_closes.main.body.getD i (.Pass ⟨0, 0, 0, 0⟩)
abbrev s_Watching_init : Stmt := inClass (topS 1) 0
abbrev N_Watching_init : List Str := ["self", "trail"]
theorem sc_Watching_init : FnScope N_Watching_init ["self", "trail"] (defScope s_Watching_init) := ⟨rfl, rfl, rfl, by decide +kernel, rfl, by decide +kernel, by decide +kernel⟩
abbrev s_Watching_put : Stmt := inClass (topS 1) 1
abbrev N_Watching_put : List Str := ["self", "clause", "source", "watched", "number", "literal"]
theorem sc_Watching_put : FnScope N_Watching_put ["self", "clause", "source"] (defScope s_Watching_put) := ⟨rfl, rfl, rfl, by decide +kernel, rfl, by decide +kernel, by decide +kernel⟩
abbrev s_Watching_clause : Stmt := inClass (topS 1) 2
abbrev N_Watching_clause : List Str := ["self", "number"]
theorem sc_Watching_clause : FnScope N_Watching_clause ["self", "number"] (defScope s_Watching_clause) := ⟨rfl, rfl, rfl, by decide +kernel, rfl, by decide +kernel, by decide +kernel⟩
abbrev s_Watching_source : Stmt := inClass (topS 1) 3
abbrev N_Watching_source : List Str := ["self", "number"]
theorem sc_Watching_source : FnScope N_Watching_source ["self", "number"] (defScope s_Watching_source) := ⟨rfl, rfl, rfl, by decide +kernel, rfl, by decide +kernel, by decide +kernel⟩
abbrev s_Watching_watched : Stmt := inClass (topS 1) 4
abbrev N_Watching_watched : List Str := ["self", "number"]
theorem sc_Watching_watched : FnScope N_Watching_watched ["self", "number"] (defScope s_Watching_watched) := ⟨rfl, rfl, rfl, by decide +kernel, rfl, by decide +kernel, by decide +kernel⟩
abbrev s_Watching_propagate : Stmt := inClass (topS 1) 5
abbrev N_Watching_propagate : List Str := ["self", "clash", "waiting", "ticket", "literal"]
theorem sc_Watching_propagate : FnScope N_Watching_propagate ["self"] (defScope s_Watching_propagate) := ⟨rfl, rfl, rfl, by decide +kernel, rfl, by decide +kernel, by decide +kernel⟩
abbrev s_Watching_forget : Stmt := inClass (topS 1) 6
abbrev N_Watching_forget : List Str := ["self", "number"]
theorem sc_Watching_forget : FnScope N_Watching_forget ["self", "number"] (defScope s_Watching_forget) := ⟨rfl, rfl, rfl, by decide +kernel, rfl, by decide +kernel, by decide +kernel⟩
abbrev s_Watching_size : Stmt := inClass (topS 1) 7
abbrev N_Watching_size : List Str := ["self"]
theorem sc_Watching_size : FnScope N_Watching_size ["self"] (defScope s_Watching_size) := ⟨rfl, rfl, rfl, by decide +kernel, rfl, by decide +kernel, by decide +kernel⟩
abbrev s_Watching_best_watched : Stmt := inClass (topS 1) 8
abbrev N_Watching_best_watched : List Str := ["self", "clause", "ranks", "literal", "ordered"]
theorem sc_Watching_best_watched : FnScope N_Watching_best_watched ["self", "clause"] (defScope s_Watching_best_watched) := ⟨rfl, rfl, rfl, by decide +kernel, rfl, by decide +kernel, by decide +kernel⟩
abbrev s_Watching_rank : Stmt := inClass (topS 1) 9
abbrev N_Watching_rank : List Str := ["self", "literal"]
theorem sc_Watching_rank : FnScope N_Watching_rank ["self", "literal"] (defScope s_Watching_rank) := ⟨rfl, rfl, rfl, by decide +kernel, rfl, by decide +kernel, by decide +kernel⟩
abbrev s_Watching_look_at_fresh : Stmt := inClass (topS 1) 10
abbrev N_Watching_look_at_fresh : List Str := ["self", "fresh", "place", "number"]
theorem sc_Watching_look_at_fresh : FnScope N_Watching_look_at_fresh ["self"] (defScope s_Watching_look_at_fresh) := ⟨rfl, rfl, rfl, by decide +kernel, rfl, by decide +kernel, by decide +kernel⟩
abbrev s_Watching_is_false_or_forces : Stmt := inClass (topS 1) 11
abbrev N_Watching_is_false_or_forces : List Str := ["self", "number", "hopes", "literal"]
theorem sc_Watching_is_false_or_forces : FnScope N_Watching_is_false_or_forces ["self", "number"] (defScope s_Watching_is_false_or_forces) := ⟨rfl, rfl, rfl, by decide +kernel, rfl, by decide +kernel, by decide +kernel⟩
abbrev s_Watching_visit : Stmt := inClass (topS 1) 12
abbrev N_Watching_visit : List Str := ["self", "literal", "numbers", "staying", "clash", "place", "number"]
theorem sc_Watching_visit : FnScope N_Watching_visit ["self", "literal"] (defScope s_Watching_visit) := ⟨rfl, rfl, rfl, by decide +kernel, rfl, by decide +kernel, by decide +kernel⟩
abbrev s_Watching_other : Stmt := inClass (topS 1) 13
abbrev N_Watching_other : List Str := ["self", "number", "literal", "first", "second"]
theorem sc_Watching_other : FnScope N_Watching_other ["self", "number", "literal"] (defScope s_Watching_other) := ⟨rfl, rfl, rfl, by decide +kernel, rfl, by decide +kernel, by decide +kernel⟩
abbrev s_Watching_moves : Stmt := inClass (topS 1) 14
abbrev N_Watching_moves : List Str := ["self", "number", "literal", "other", "each"]
theorem sc_Watching_moves : FnScope N_Watching_moves ["self", "number", "literal"] (defScope s_Watching_moves) := ⟨rfl, rfl, rfl, by decide +kernel, rfl, by decide +kernel, by decide +kernel⟩
abbrev s_Watching_clash_or_force : Stmt := inClass (topS 1) 15
abbrev N_Watching_clash_or_force : List Str := ["self", "number", "literal", "other"]
theorem sc_Watching_clash_or_force : FnScope N_Watching_clash_or_force ["self", "number", "literal"] (defScope s_Watching_clash_or_force) := ⟨rfl, rfl, rfl, by decide +kernel, rfl, by decide +kernel, by decide +kernel⟩
abbrev s_BadLiteral_init : Stmt := inClass (topS 4) 0
abbrev N_BadLiteral_init : List Str := ["self", "literal"]
theorem sc_BadLiteral_init : FnScope N_BadLiteral_init ["self", "literal"] (defScope s_BadLiteral_init) := ⟨rfl, rfl, rfl, by decide +kernel, rfl, by decide +kernel, by decide +kernel⟩
abbrev s_Trail_init : Stmt := inClass (topS 6) 0
abbrev N_Trail_init : List Str := ["self", "nodes", "node"]
theorem sc_Trail_init : FnScope N_Trail_init ["self", "nodes"] (defScope s_Trail_init) := ⟨rfl, rfl, rfl, by decide +kernel, rfl, by decide +kernel, by decide +kernel⟩
abbrev s_Trail_choose : Stmt := inClass (topS 6) 1
abbrev N_Trail_choose : List Str := ["self", "literal"]
theorem sc_Trail_choose : FnScope N_Trail_choose ["self", "literal"] (defScope s_Trail_choose) := ⟨rfl, rfl, rfl, by decide +kernel, rfl, by decide +kernel, by decide +kernel⟩
abbrev s_Trail_force : Stmt := inClass (topS 6) 2
abbrev N_Trail_force : List Str := ["self", "literal", "reason"]
theorem sc_Trail_force : FnScope N_Trail_force ["self", "literal", "reason"] (defScope s_Trail_force) := ⟨rfl, rfl, rfl, by decide +kernel, rfl, by decide +kernel, by decide +kernel⟩
abbrev s_Trail_back : Stmt := inClass (topS 6) 3
abbrev N_Trail_back : List Str := ["self", "level", "start", "literal"]
theorem sc_Trail_back : FnScope N_Trail_back ["self", "level"] (defScope s_Trail_back) := ⟨rfl, rfl, rfl, by decide +kernel, rfl, by decide +kernel, by decide +kernel⟩
abbrev s_Trail_value : Stmt := inClass (topS 6) 4
abbrev N_Trail_value : List Str := ["self", "literal"]
theorem sc_Trail_value : FnScope N_Trail_value ["self", "literal"] (defScope s_Trail_value) := ⟨rfl, rfl, rfl, by decide +kernel, rfl, by decide +kernel, by decide +kernel⟩
abbrev s_Trail_level_of : Stmt := inClass (topS 6) 5
abbrev N_Trail_level_of : List Str := ["self", "literal", "place"]
theorem sc_Trail_level_of : FnScope N_Trail_level_of ["self", "literal"] (defScope s_Trail_level_of) := ⟨rfl, rfl, rfl, by decide +kernel, rfl, by decide +kernel, by decide +kernel⟩
abbrev s_Trail_reason_of : Stmt := inClass (topS 6) 6
abbrev N_Trail_reason_of : List Str := ["self", "literal", "place"]
theorem sc_Trail_reason_of : FnScope N_Trail_reason_of ["self", "literal"] (defScope s_Trail_reason_of) := ⟨rfl, rfl, rfl, by decide +kernel, rfl, by decide +kernel, by decide +kernel⟩
abbrev s_Trail_place_of : Stmt := inClass (topS 6) 7
abbrev N_Trail_place_of : List Str := ["self", "literal"]
theorem sc_Trail_place_of : FnScope N_Trail_place_of ["self", "literal"] (defScope s_Trail_place_of) := ⟨rfl, rfl, rfl, by decide +kernel, rfl, by decide +kernel, by decide +kernel⟩
abbrev s_Trail_literals : Stmt := inClass (topS 6) 8
abbrev N_Trail_literals : List Str := ["self"]
theorem sc_Trail_literals : FnScope N_Trail_literals ["self"] (defScope s_Trail_literals) := ⟨rfl, rfl, rfl, by decide +kernel, rfl, by decide +kernel, by decide +kernel⟩
abbrev s_Trail_sizes : Stmt := inClass (topS 6) 9
abbrev N_Trail_sizes : List Str := ["self", "edges", "k"]
theorem sc_Trail_sizes : FnScope N_Trail_sizes ["self"] (defScope s_Trail_sizes) := ⟨rfl, rfl, rfl, by decide +kernel, rfl, by decide +kernel, by decide +kernel⟩
abbrev s_Trail_depth : Stmt := inClass (topS 6) 10
abbrev N_Trail_depth : List Str := ["self"]
theorem sc_Trail_depth : FnScope N_Trail_depth ["self"] (defScope s_Trail_depth) := ⟨rfl, rfl, rfl, by decide +kernel, rfl, by decide +kernel, by decide +kernel⟩
abbrev s_Trail_put_since : Stmt := inClass (topS 6) 11
abbrev N_Trail_put_since : List Str := ["self", "ticket", "start"]
theorem sc_Trail_put_since : FnScope N_Trail_put_since ["self", "ticket"] (defScope s_Trail_put_since) := ⟨rfl, rfl, rfl, by decide +kernel, rfl, by decide +kernel, by decide +kernel⟩
abbrev s_Trail_contains : Stmt := inClass (topS 6) 12
abbrev N_Trail_contains : List Str := ["self", "x"]
theorem sc_Trail_contains : FnScope N_Trail_contains ["self", "x"] (defScope s_Trail_contains) := ⟨rfl, rfl, rfl, by decide +kernel, rfl, by decide +kernel, by decide +kernel⟩
abbrev s_Trail_put : Stmt := inClass (topS 6) 13
abbrev N_Trail_put : List Str := ["self", "literal", "reason"]
theorem sc_Trail_put : FnScope N_Trail_put ["self", "literal", "reason"] (defScope s_Trail_put) := ⟨rfl, rfl, rfl, by decide +kernel, rfl, by decide +kernel, by decide +kernel⟩
abbrev s_Trail_refuse_unknown : Stmt := inClass (topS 6) 14
abbrev N_Trail_refuse_unknown : List Str := ["self", "literal"]
theorem sc_Trail_refuse_unknown : FnScope N_Trail_refuse_unknown ["self", "literal"] (defScope s_Trail_refuse_unknown) := ⟨rfl, rfl, rfl, by decide +kernel, rfl, by decide +kernel, by decide +kernel⟩
abbrev s_Trail_refuse_unless_open : Stmt := inClass (topS 6) 15
abbrev N_Trail_refuse_unless_open : List Str := ["self", "literal"]
theorem sc_Trail_refuse_unless_open : FnScope N_Trail_refuse_unless_open ["self", "literal"] (defScope s_Trail_refuse_unless_open) := ⟨rfl, rfl, rfl, by decide +kernel, rfl, by decide +kernel, by decide +kernel⟩
abbrev s_pool : Stmt := topS 8
abbrev N_pool : List Str := ["_law_script", "_law_k", "_law_cell", "_law_spare"]
theorem sc_pool : FnScope N_pool ["_law_script", "_law_k"] (defScope s_pool) := ⟨rfl, rfl, rfl, by decide +kernel, rfl, by decide +kernel, by decide +kernel⟩
abbrev s_take : Stmt := topS 9
abbrev N_take : List Str := ["_law_pool_here", "_law_size", "_law_k", "_law_cell", "_law_mixed"]
theorem sc_take : FnScope N_take ["_law_pool_here", "_law_size"] (defScope s_take) := ⟨rfl, rfl, rfl, by decide +kernel, rfl, by decide +kernel, by decide +kernel⟩
abbrev s_whole : Stmt := topS 10
abbrev N_whole : List Str := ["_law_value"]
theorem sc_whole : FnScope N_whole ["_law_value"] (defScope s_whole) := ⟨rfl, rfl, rfl, by decide +kernel, rfl, by decide +kernel, by decide +kernel⟩
abbrev s_alike : Stmt := topS 11
abbrev N_alike : List Str := ["_law_actual", "_law_expected"]
theorem sc_alike : FnScope N_alike ["_law_actual", "_law_expected"] (defScope s_alike) := ⟨rfl, rfl, rfl, by decide +kernel, rfl, by decide +kernel, by decide +kernel⟩
abbrev s_list : Stmt := topS 12
abbrev N_list : List Str := ["_law_actual", "_law_expected", "_law_k"]
theorem sc_list : FnScope N_list ["_law_actual", "_law_expected"] (defScope s_list) := ⟨rfl, rfl, rfl, by decide +kernel, rfl, by decide +kernel, by decide +kernel⟩
abbrev s_seat : Stmt := topS 13
abbrev N_seat : List Str := ["_law_pool_here", "_law_many", "_law_gaps", "_law_nodes", "_law_node", "_law_k", "_law_links", "_law_n", "_law_trail"]
theorem sc_seat : FnScope N_seat ["_law_pool_here"] (defScope s_seat) := ⟨rfl, rfl, rfl, by decide +kernel, rfl, by decide +kernel, by decide +kernel⟩
abbrev s_stranger : Stmt := topS 14
abbrev N_stranger : List Str := ["_law_pool_here", "_law_nodes", "_law_start", "_law_k"]
theorem sc_stranger : FnScope N_stranger ["_law_pool_here", "_law_nodes"] (defScope s_stranger) := ⟨rfl, rfl, rfl, by decide +kernel, rfl, by decide +kernel, by decide +kernel⟩
abbrev s_clause : Stmt := topS 15
abbrev N_clause : List Str := ["_law_pool_here", "_law_seat_here", "_law_many", "_law_links", "_law_count", "_law_left", "_law_line", "_law_k", "_law_at"]
theorem sc_clause : FnScope N_clause ["_law_pool_here", "_law_seat_here"] (defScope s_clause) := ⟨rfl, rfl, rfl, by decide +kernel, rfl, by decide +kernel, by decide +kernel⟩
abbrev s_refused : Stmt := topS 16
abbrev N_refused : List Str := ["_law_watching", "_law_clause_here", "_law_due", "e"]
theorem sc_refused : FnScope N_refused ["_law_watching", "_law_clause_here", "_law_due"] (defScope s_refused) := ⟨rfl, rfl, rfl, by decide +kernel, rfl, by decide +kernel, by decide +kernel⟩
abbrev s_refused_base : Stmt := topS 17
abbrev N_refused_base : List Str := ["_law_watching", "_law_clause_here", "_law_due", "e"]
theorem sc_refused_base : FnScope N_refused_base ["_law_watching", "_law_clause_here", "_law_due"] (defScope s_refused_base) := ⟨rfl, rfl, rfl, by decide +kernel, rfl, by decide +kernel, by decide +kernel⟩
abbrev s_bad_put : Stmt := topS 18
abbrev N_bad_put : List Str := ["_law_pool_here", "_law_seat_here", "_law_line", "_law_known", "_law_k", "_law_node", "_law_clause_here", "_law_due", "_law_literal"]
theorem sc_bad_put : FnScope N_bad_put ["_law_pool_here", "_law_seat_here"] (defScope s_bad_put) := ⟨rfl, rfl, rfl, by decide +kernel, rfl, by decide +kernel, by decide +kernel⟩
abbrev s_watched : Stmt := topS 19
abbrev N_watched : List Str := ["_law_seat_here", "_law_number", "_law_pair", "_law_clause_here", "_law_literal"]
theorem sc_watched : FnScope N_watched ["_law_seat_here", "_law_number"] (defScope s_watched) := ⟨rfl, rfl, rfl, by decide +kernel, rfl, by decide +kernel, by decide +kernel⟩
abbrev s_put : Stmt := topS 20
abbrev N_put : List Str := ["_law_pool_here", "_law_seat_here", "_law_number", "_law_clause_here", "_law_source"]
theorem sc_put : FnScope N_put ["_law_pool_here", "_law_seat_here"] (defScope s_put) := ⟨rfl, rfl, rfl, by decide +kernel, rfl, by decide +kernel, by decide +kernel⟩
abbrev s_depth : Stmt := topS 21
abbrev N_depth : List Str := ["_law_seat_here", "_law_row"]
theorem sc_depth : FnScope N_depth ["_law_seat_here"] (defScope s_depth) := ⟨rfl, rfl, rfl, by decide +kernel, rfl, by decide +kernel, by decide +kernel⟩
abbrev s_stands : Stmt := topS 22
abbrev N_stands : List Str := ["_law_seat_here", "_law_trail", "_law_rows", "_law_depth_here", "_law_levels", "_law_row", "_law_level", "_law_k", "_law_literal", "_law_on", "_law_node"]
theorem sc_stands : FnScope N_stands ["_law_seat_here"] (defScope s_stands) := ⟨rfl, rfl, rfl, by decide +kernel, rfl, by decide +kernel, by decide +kernel⟩
abbrev s_back : Stmt := topS 23
abbrev N_back : List Str := ["_law_seat_here", "_law_level", "_law_row"]
theorem sc_back : FnScope N_back ["_law_seat_here", "_law_level"] (defScope s_back) := ⟨rfl, rfl, rfl, by decide +kernel, rfl, by decide +kernel, by decide +kernel⟩
abbrev s_grown : Stmt := topS 24
abbrev N_grown : List Str := ["_law_seat_here", "_law_rows", "_law_depth_here", "_law_order", "_law_row", "_law_literal", "_law_reason", "_law_before", "_law_other"]
theorem sc_grown : FnScope N_grown ["_law_seat_here"] (defScope s_grown) := ⟨rfl, rfl, rfl, by decide +kernel, rfl, by decide +kernel, by decide +kernel⟩
abbrev s_closure : Stmt := topS 25
abbrev N_closure : List Str := ["_law_seat_here", "_law_found", "_law_row", "_law_turn", "_law_size", "_law_k", "_law_left", "_law_literal"]
theorem sc_closure : FnScope N_closure ["_law_seat_here"] (defScope s_closure) := ⟨rfl, rfl, rfl, by decide +kernel, rfl, by decide +kernel, by decide +kernel⟩
abbrev s_propagates : Stmt := topS 26
abbrev N_propagates : List Str := ["_law_seat_here", "_law_told", "_law_rows", "_law_known", "_law_row", "_law_due", "_law_literal"]
theorem sc_propagates : FnScope N_propagates ["_law_seat_here"] (defScope s_propagates) := ⟨rfl, rfl, rfl, by decide +kernel, rfl, by decide +kernel, by decide +kernel⟩
abbrev s_open : Stmt := topS 27
abbrev N_open : List Str := ["_law_pool_here", "_law_seat_here", "_law_on", "_law_row", "_law_free", "_law_node"]
theorem sc_open : FnScope N_open ["_law_pool_here", "_law_seat_here"] (defScope s_open) := ⟨rfl, rfl, rfl, by decide +kernel, rfl, by decide +kernel, by decide +kernel⟩
abbrev s_forget : Stmt := topS 28
abbrev N_forget : List Str := ["_law_pool_here", "_law_seat_here", "_law_reasons", "_law_row", "_law_free", "_law_k", "_law_number"]
theorem sc_forget : FnScope N_forget ["_law_pool_here", "_law_seat_here"] (defScope s_forget) := ⟨rfl, rfl, rfl, by decide +kernel, rfl, by decide +kernel, by decide +kernel⟩
abbrev s_lot : Stmt := topS 29
abbrev N_lot : List Str := ["_law_pool_here", "_law_seat_here", "_law_many", "_law_k"]
theorem sc_lot : FnScope N_lot ["_law_pool_here", "_law_seat_here", "_law_many"] (defScope s_lot) := ⟨rfl, rfl, rfl, by decide +kernel, rfl, by decide +kernel, by decide +kernel⟩
abbrev s_deed : Stmt := topS 30
abbrev N_deed : List Str := ["_law_pool_here", "_law_seat_here", "_law_pick", "_law_low", "_law_literal", "_law_reason"]
theorem sc_deed : FnScope N_deed ["_law_pool_here", "_law_seat_here"] (defScope s_deed) := ⟨rfl, rfl, rfl, by decide +kernel, rfl, by decide +kernel, by decide +kernel⟩
abbrev s_kept : Stmt := topS 31
abbrev N_kept : List Str := ["_law_seat_here", "_law_k", "_law_told"]
theorem sc_kept : FnScope N_kept ["_law_seat_here"] (defScope s_kept) := ⟨rfl, rfl, rfl, by decide +kernel, rfl, by decide +kernel, by decide +kernel⟩
abbrev s_law : Stmt := topS 32
abbrev N_law : List Str := ["_law_script", "_law_first", "_law_seats", "_law_turn", "_law_seat_here", "_law_many", "_law_k", "_law_pool_here"]
theorem sc_law : FnScope N_law ["_law_script"] (defScope s_law) := ⟨rfl, rfl, rfl, by decide +kernel, rfl, by decide +kernel, by decide +kernel⟩
def lit_0 : List Nat := [32, 100, 111, 101, 115, 32, 110, 111, 116, 32, 102, 105, 116, 32, 104, 101, 114, 101]
structure Txt (K : PySem.W.Frag) (mg : Str → Option Value) : Type where
  f_Watching_init : Addr
  fd_Watching_init : FuncData
  F_Watching_init : Fun K "__init__" "Watching.__init__" s_Watching_init f_Watching_init fd_Watching_init
  b_Watching_init : Binds K fd_Watching_init ["self", "trail"] []
  f_Watching_put : Addr
  fd_Watching_put : FuncData
  F_Watching_put : Fun K "put" "Watching.put" s_Watching_put f_Watching_put fd_Watching_put
  b_Watching_put : Binds K fd_Watching_put ["self", "clause", "source"] []
  f_Watching_clause : Addr
  fd_Watching_clause : FuncData
  F_Watching_clause : Fun K "clause" "Watching.clause" s_Watching_clause f_Watching_clause fd_Watching_clause
  b_Watching_clause : Binds K fd_Watching_clause ["self", "number"] []
  f_Watching_source : Addr
  fd_Watching_source : FuncData
  F_Watching_source : Fun K "source" "Watching.source" s_Watching_source f_Watching_source fd_Watching_source
  b_Watching_source : Binds K fd_Watching_source ["self", "number"] []
  f_Watching_watched : Addr
  fd_Watching_watched : FuncData
  F_Watching_watched : Fun K "watched" "Watching.watched" s_Watching_watched f_Watching_watched fd_Watching_watched
  b_Watching_watched : Binds K fd_Watching_watched ["self", "number"] []
  f_Watching_propagate : Addr
  fd_Watching_propagate : FuncData
  F_Watching_propagate : Fun K "propagate" "Watching.propagate" s_Watching_propagate f_Watching_propagate fd_Watching_propagate
  b_Watching_propagate : Binds K fd_Watching_propagate ["self"] []
  f_Watching_forget : Addr
  fd_Watching_forget : FuncData
  F_Watching_forget : Fun K "forget" "Watching.forget" s_Watching_forget f_Watching_forget fd_Watching_forget
  b_Watching_forget : Binds K fd_Watching_forget ["self", "number"] []
  f_Watching_size : Addr
  fd_Watching_size : FuncData
  F_Watching_size : Fun K "size" "Watching.size" s_Watching_size f_Watching_size fd_Watching_size
  b_Watching_size : Binds K fd_Watching_size ["self"] []
  f_Watching_best_watched : Addr
  fd_Watching_best_watched : FuncData
  F_Watching_best_watched : Fun K "_best_watched" "Watching._best_watched" s_Watching_best_watched f_Watching_best_watched fd_Watching_best_watched
  b_Watching_best_watched : Binds K fd_Watching_best_watched ["self", "clause"] []
  f_Watching_rank : Addr
  fd_Watching_rank : FuncData
  F_Watching_rank : Fun K "_rank" "Watching._rank" s_Watching_rank f_Watching_rank fd_Watching_rank
  b_Watching_rank : Binds K fd_Watching_rank ["self", "literal"] []
  f_Watching_look_at_fresh : Addr
  fd_Watching_look_at_fresh : FuncData
  F_Watching_look_at_fresh : Fun K "_look_at_fresh" "Watching._look_at_fresh" s_Watching_look_at_fresh f_Watching_look_at_fresh fd_Watching_look_at_fresh
  b_Watching_look_at_fresh : Binds K fd_Watching_look_at_fresh ["self"] []
  f_Watching_is_false_or_forces : Addr
  fd_Watching_is_false_or_forces : FuncData
  F_Watching_is_false_or_forces : Fun K "_is_false_or_forces" "Watching._is_false_or_forces" s_Watching_is_false_or_forces f_Watching_is_false_or_forces fd_Watching_is_false_or_forces
  b_Watching_is_false_or_forces : Binds K fd_Watching_is_false_or_forces ["self", "number"] []
  f_Watching_visit : Addr
  fd_Watching_visit : FuncData
  F_Watching_visit : Fun K "_visit" "Watching._visit" s_Watching_visit f_Watching_visit fd_Watching_visit
  b_Watching_visit : Binds K fd_Watching_visit ["self", "literal"] []
  f_Watching_other : Addr
  fd_Watching_other : FuncData
  F_Watching_other : Fun K "_other" "Watching._other" s_Watching_other f_Watching_other fd_Watching_other
  b_Watching_other : Binds K fd_Watching_other ["self", "number", "literal"] []
  f_Watching_moves : Addr
  fd_Watching_moves : FuncData
  F_Watching_moves : Fun K "_moves" "Watching._moves" s_Watching_moves f_Watching_moves fd_Watching_moves
  b_Watching_moves : Binds K fd_Watching_moves ["self", "number", "literal"] []
  f_Watching_clash_or_force : Addr
  fd_Watching_clash_or_force : FuncData
  F_Watching_clash_or_force : Fun K "_clash_or_force" "Watching._clash_or_force" s_Watching_clash_or_force f_Watching_clash_or_force fd_Watching_clash_or_force
  b_Watching_clash_or_force : Binds K fd_Watching_clash_or_force ["self", "number", "literal"] []
  f_BadLiteral_init : Addr
  fd_BadLiteral_init : FuncData
  F_BadLiteral_init : Fun K "__init__" "BadLiteral.__init__" s_BadLiteral_init f_BadLiteral_init fd_BadLiteral_init
  b_BadLiteral_init : Binds K fd_BadLiteral_init ["self", "literal"] []
  f_Trail_init : Addr
  fd_Trail_init : FuncData
  F_Trail_init : Fun K "__init__" "Trail.__init__" s_Trail_init f_Trail_init fd_Trail_init
  b_Trail_init : Binds K fd_Trail_init ["self", "nodes"] []
  f_Trail_choose : Addr
  fd_Trail_choose : FuncData
  F_Trail_choose : Fun K "choose" "Trail.choose" s_Trail_choose f_Trail_choose fd_Trail_choose
  b_Trail_choose : Binds K fd_Trail_choose ["self", "literal"] []
  f_Trail_force : Addr
  fd_Trail_force : FuncData
  F_Trail_force : Fun K "force" "Trail.force" s_Trail_force f_Trail_force fd_Trail_force
  b_Trail_force : Binds K fd_Trail_force ["self", "literal", "reason"] []
  f_Trail_back : Addr
  fd_Trail_back : FuncData
  F_Trail_back : Fun K "back" "Trail.back" s_Trail_back f_Trail_back fd_Trail_back
  b_Trail_back : Binds K fd_Trail_back ["self", "level"] []
  f_Trail_value : Addr
  fd_Trail_value : FuncData
  F_Trail_value : Fun K "value" "Trail.value" s_Trail_value f_Trail_value fd_Trail_value
  b_Trail_value : Binds K fd_Trail_value ["self", "literal"] []
  f_Trail_level_of : Addr
  fd_Trail_level_of : FuncData
  F_Trail_level_of : Fun K "level_of" "Trail.level_of" s_Trail_level_of f_Trail_level_of fd_Trail_level_of
  b_Trail_level_of : Binds K fd_Trail_level_of ["self", "literal"] []
  f_Trail_reason_of : Addr
  fd_Trail_reason_of : FuncData
  F_Trail_reason_of : Fun K "reason_of" "Trail.reason_of" s_Trail_reason_of f_Trail_reason_of fd_Trail_reason_of
  b_Trail_reason_of : Binds K fd_Trail_reason_of ["self", "literal"] []
  f_Trail_place_of : Addr
  fd_Trail_place_of : FuncData
  F_Trail_place_of : Fun K "place_of" "Trail.place_of" s_Trail_place_of f_Trail_place_of fd_Trail_place_of
  b_Trail_place_of : Binds K fd_Trail_place_of ["self", "literal"] []
  f_Trail_literals : Addr
  fd_Trail_literals : FuncData
  F_Trail_literals : Fun K "literals" "Trail.literals" s_Trail_literals f_Trail_literals fd_Trail_literals
  b_Trail_literals : Binds K fd_Trail_literals ["self"] []
  f_Trail_sizes : Addr
  fd_Trail_sizes : FuncData
  F_Trail_sizes : Fun K "sizes" "Trail.sizes" s_Trail_sizes f_Trail_sizes fd_Trail_sizes
  b_Trail_sizes : Binds K fd_Trail_sizes ["self"] []
  f_Trail_depth : Addr
  fd_Trail_depth : FuncData
  F_Trail_depth : Fun K "depth" "Trail.depth" s_Trail_depth f_Trail_depth fd_Trail_depth
  b_Trail_depth : Binds K fd_Trail_depth ["self"] []
  f_Trail_put_since : Addr
  fd_Trail_put_since : FuncData
  F_Trail_put_since : Fun K "put_since" "Trail.put_since" s_Trail_put_since f_Trail_put_since fd_Trail_put_since
  b_Trail_put_since : Binds K fd_Trail_put_since ["self", "ticket"] []
  f_Trail_contains : Addr
  fd_Trail_contains : FuncData
  F_Trail_contains : Fun K "__contains__" "Trail.__contains__" s_Trail_contains f_Trail_contains fd_Trail_contains
  b_Trail_contains : Binds K fd_Trail_contains ["self", "x"] []
  f_Trail_put : Addr
  fd_Trail_put : FuncData
  F_Trail_put : Fun K "_put" "Trail._put" s_Trail_put f_Trail_put fd_Trail_put
  b_Trail_put : Binds K fd_Trail_put ["self", "literal", "reason"] []
  f_Trail_refuse_unknown : Addr
  fd_Trail_refuse_unknown : FuncData
  F_Trail_refuse_unknown : Fun K "_refuse_unknown" "Trail._refuse_unknown" s_Trail_refuse_unknown f_Trail_refuse_unknown fd_Trail_refuse_unknown
  b_Trail_refuse_unknown : Binds K fd_Trail_refuse_unknown ["self", "literal"] []
  f_Trail_refuse_unless_open : Addr
  fd_Trail_refuse_unless_open : FuncData
  F_Trail_refuse_unless_open : Fun K "_refuse_unless_open" "Trail._refuse_unless_open" s_Trail_refuse_unless_open f_Trail_refuse_unless_open fd_Trail_refuse_unless_open
  b_Trail_refuse_unless_open : Binds K fd_Trail_refuse_unless_open ["self", "literal"] []
  f_pool : Addr
  fd_pool : FuncData
  F_pool : Fun K "_law_pool" "_law_pool" s_pool f_pool fd_pool
  b_pool : Binds K fd_pool ["_law_script", "_law_k"] []
  g_pool : mg "_law_pool" = some (.ref f_pool)
  f_take : Addr
  fd_take : FuncData
  F_take : Fun K "_law_take" "_law_take" s_take f_take fd_take
  b_take : Binds K fd_take ["_law_pool_here", "_law_size"] []
  g_take : mg "_law_take" = some (.ref f_take)
  f_whole : Addr
  fd_whole : FuncData
  F_whole : Fun K "_law_whole" "_law_whole" s_whole f_whole fd_whole
  b_whole : Binds K fd_whole ["_law_value"] []
  g_whole : mg "_law_whole" = some (.ref f_whole)
  f_alike : Addr
  fd_alike : FuncData
  F_alike : Fun K "_law_alike" "_law_alike" s_alike f_alike fd_alike
  b_alike : Binds K fd_alike ["_law_actual", "_law_expected"] []
  g_alike : mg "_law_alike" = some (.ref f_alike)
  f_list : Addr
  fd_list : FuncData
  F_list : Fun K "_law_list" "_law_list" s_list f_list fd_list
  b_list : Binds K fd_list ["_law_actual", "_law_expected"] []
  g_list : mg "_law_list" = some (.ref f_list)
  f_seat : Addr
  fd_seat : FuncData
  F_seat : Fun K "_law_seat" "_law_seat" s_seat f_seat fd_seat
  b_seat : Binds K fd_seat ["_law_pool_here"] []
  g_seat : mg "_law_seat" = some (.ref f_seat)
  f_stranger : Addr
  fd_stranger : FuncData
  F_stranger : Fun K "_law_stranger" "_law_stranger" s_stranger f_stranger fd_stranger
  b_stranger : Binds K fd_stranger ["_law_pool_here", "_law_nodes"] []
  g_stranger : mg "_law_stranger" = some (.ref f_stranger)
  f_clause : Addr
  fd_clause : FuncData
  F_clause : Fun K "_law_clause" "_law_clause" s_clause f_clause fd_clause
  b_clause : Binds K fd_clause ["_law_pool_here", "_law_seat_here"] []
  g_clause : mg "_law_clause" = some (.ref f_clause)
  f_refused : Addr
  fd_refused : FuncData
  F_refused : Fun K "_law_refused" "_law_refused" s_refused f_refused fd_refused
  b_refused : Binds K fd_refused ["_law_watching", "_law_clause_here", "_law_due"] []
  g_refused : mg "_law_refused" = some (.ref f_refused)
  f_refused_base : Addr
  fd_refused_base : FuncData
  F_refused_base : Fun K "_law_refused_base" "_law_refused_base" s_refused_base f_refused_base fd_refused_base
  b_refused_base : Binds K fd_refused_base ["_law_watching", "_law_clause_here", "_law_due"] []
  g_refused_base : mg "_law_refused_base" = some (.ref f_refused_base)
  f_bad_put : Addr
  fd_bad_put : FuncData
  F_bad_put : Fun K "_law_bad_put" "_law_bad_put" s_bad_put f_bad_put fd_bad_put
  b_bad_put : Binds K fd_bad_put ["_law_pool_here", "_law_seat_here"] []
  g_bad_put : mg "_law_bad_put" = some (.ref f_bad_put)
  f_watched : Addr
  fd_watched : FuncData
  F_watched : Fun K "_law_watched" "_law_watched" s_watched f_watched fd_watched
  b_watched : Binds K fd_watched ["_law_seat_here", "_law_number"] []
  g_watched : mg "_law_watched" = some (.ref f_watched)
  f_put : Addr
  fd_put : FuncData
  F_put : Fun K "_law_put" "_law_put" s_put f_put fd_put
  b_put : Binds K fd_put ["_law_pool_here", "_law_seat_here"] []
  g_put : mg "_law_put" = some (.ref f_put)
  f_depth : Addr
  fd_depth : FuncData
  F_depth : Fun K "_law_depth" "_law_depth" s_depth f_depth fd_depth
  b_depth : Binds K fd_depth ["_law_seat_here"] []
  g_depth : mg "_law_depth" = some (.ref f_depth)
  f_stands : Addr
  fd_stands : FuncData
  F_stands : Fun K "_law_stands" "_law_stands" s_stands f_stands fd_stands
  b_stands : Binds K fd_stands ["_law_seat_here"] []
  g_stands : mg "_law_stands" = some (.ref f_stands)
  f_back : Addr
  fd_back : FuncData
  F_back : Fun K "_law_back" "_law_back" s_back f_back fd_back
  b_back : Binds K fd_back ["_law_seat_here", "_law_level"] []
  g_back : mg "_law_back" = some (.ref f_back)
  f_grown : Addr
  fd_grown : FuncData
  F_grown : Fun K "_law_grown" "_law_grown" s_grown f_grown fd_grown
  b_grown : Binds K fd_grown ["_law_seat_here"] []
  g_grown : mg "_law_grown" = some (.ref f_grown)
  f_closure : Addr
  fd_closure : FuncData
  F_closure : Fun K "_law_closure" "_law_closure" s_closure f_closure fd_closure
  b_closure : Binds K fd_closure ["_law_seat_here"] []
  g_closure : mg "_law_closure" = some (.ref f_closure)
  f_propagates : Addr
  fd_propagates : FuncData
  F_propagates : Fun K "_law_propagates" "_law_propagates" s_propagates f_propagates fd_propagates
  b_propagates : Binds K fd_propagates ["_law_seat_here"] []
  g_propagates : mg "_law_propagates" = some (.ref f_propagates)
  f_open : Addr
  fd_open : FuncData
  F_open : Fun K "_law_open" "_law_open" s_open f_open fd_open
  b_open : Binds K fd_open ["_law_pool_here", "_law_seat_here"] []
  g_open : mg "_law_open" = some (.ref f_open)
  f_forget : Addr
  fd_forget : FuncData
  F_forget : Fun K "_law_forget" "_law_forget" s_forget f_forget fd_forget
  b_forget : Binds K fd_forget ["_law_pool_here", "_law_seat_here"] []
  g_forget : mg "_law_forget" = some (.ref f_forget)
  f_lot : Addr
  fd_lot : FuncData
  F_lot : Fun K "_law_lot" "_law_lot" s_lot f_lot fd_lot
  b_lot : Binds K fd_lot ["_law_pool_here", "_law_seat_here", "_law_many"] []
  g_lot : mg "_law_lot" = some (.ref f_lot)
  f_deed : Addr
  fd_deed : FuncData
  F_deed : Fun K "_law_deed" "_law_deed" s_deed f_deed fd_deed
  b_deed : Binds K fd_deed ["_law_pool_here", "_law_seat_here"] []
  g_deed : mg "_law_deed" = some (.ref f_deed)
  f_kept : Addr
  fd_kept : FuncData
  F_kept : Fun K "_law_kept" "_law_kept" s_kept f_kept fd_kept
  b_kept : Binds K fd_kept ["_law_seat_here"] []
  g_kept : mg "_law_kept" = some (.ref f_kept)
  f_law : Addr
  fd_law : FuncData
  F_law : Fun K "law" "law" s_law f_law fd_law
  b_law : Binds K fd_law ["_law_script"] []
  g_law : mg "law" = some (.ref f_law)
  C_Trail : Addr
  c_Trail : mg "Trail" = some (.ref C_Trail)
  cl_Trail : Cls K C_Trail
  mk_Trail : Mk K C_Trail f_Trail_init
  n_Trail__nodes : NoAttr K C_Trail "_nodes"
  n_Trail__literals : NoAttr K C_Trail "_literals"
  n_Trail__levels : NoAttr K C_Trail "_levels"
  n_Trail__reasons : NoAttr K C_Trail "_reasons"
  n_Trail__places : NoAttr K C_Trail "_places"
  n_Trail__starts : NoAttr K C_Trail "_starts"
  n_Trail__tickets : NoAttr K C_Trail "_tickets"
  n_Trail__next_ticket : NoAttr K C_Trail "_next_ticket"
  M_Trail_init : Meth K C_Trail "__init__" f_Trail_init
  M_Trail_choose : Meth K C_Trail "choose" f_Trail_choose
  M_Trail_force : Meth K C_Trail "force" f_Trail_force
  M_Trail_back : Meth K C_Trail "back" f_Trail_back
  M_Trail_value : Meth K C_Trail "value" f_Trail_value
  M_Trail_level_of : Meth K C_Trail "level_of" f_Trail_level_of
  M_Trail_reason_of : Meth K C_Trail "reason_of" f_Trail_reason_of
  M_Trail_place_of : Meth K C_Trail "place_of" f_Trail_place_of
  M_Trail_literals : Meth K C_Trail "literals" f_Trail_literals
  M_Trail_sizes : Meth K C_Trail "sizes" f_Trail_sizes
  M_Trail_depth : Meth K C_Trail "depth" f_Trail_depth
  M_Trail_put_since : Meth K C_Trail "put_since" f_Trail_put_since
  M_Trail_contains : Meth K C_Trail "__contains__" f_Trail_contains
  M_Trail_put : Meth K C_Trail "_put" f_Trail_put
  M_Trail_refuse_unknown : Meth K C_Trail "_refuse_unknown" f_Trail_refuse_unknown
  M_Trail_refuse_unless_open : Meth K C_Trail "_refuse_unless_open" f_Trail_refuse_unless_open
  in_Trail : OWN.InC K C_Trail f_Trail_contains
  C_Watching : Addr
  c_Watching : mg "Watching" = some (.ref C_Watching)
  cl_Watching : Cls K C_Watching
  mk_Watching : Mk K C_Watching f_Watching_init
  n_Watching__trail : NoAttr K C_Watching "_trail"
  n_Watching__clauses : NoAttr K C_Watching "_clauses"
  n_Watching__sources : NoAttr K C_Watching "_sources"
  n_Watching__watched : NoAttr K C_Watching "_watched"
  n_Watching__watchers : NoAttr K C_Watching "_watchers"
  n_Watching__forgotten : NoAttr K C_Watching "_forgotten"
  n_Watching__fresh : NoAttr K C_Watching "_fresh"
  n_Watching__seen : NoAttr K C_Watching "_seen"
  M_Watching_init : Meth K C_Watching "__init__" f_Watching_init
  M_Watching_put : Meth K C_Watching "put" f_Watching_put
  M_Watching_clause : Meth K C_Watching "clause" f_Watching_clause
  M_Watching_source : Meth K C_Watching "source" f_Watching_source
  M_Watching_watched : Meth K C_Watching "watched" f_Watching_watched
  M_Watching_propagate : Meth K C_Watching "propagate" f_Watching_propagate
  M_Watching_forget : Meth K C_Watching "forget" f_Watching_forget
  M_Watching_size : Meth K C_Watching "size" f_Watching_size
  M_Watching_best_watched : Meth K C_Watching "_best_watched" f_Watching_best_watched
  M_Watching_rank : Meth K C_Watching "_rank" f_Watching_rank
  M_Watching_look_at_fresh : Meth K C_Watching "_look_at_fresh" f_Watching_look_at_fresh
  M_Watching_is_false_or_forces : Meth K C_Watching "_is_false_or_forces" f_Watching_is_false_or_forces
  M_Watching_visit : Meth K C_Watching "_visit" f_Watching_visit
  M_Watching_other : Meth K C_Watching "_other" f_Watching_other
  M_Watching_moves : Meth K C_Watching "_moves" f_Watching_moves
  M_Watching_clash_or_force : Meth K C_Watching "_clash_or_force" f_Watching_clash_or_force
  m_len : mg "len" = none
  m_int : mg "int" = none
  m_abs : mg "abs" = none
  m_min : mg "min" = none
  m_max : mg "max" = none
  m_isinstance : mg "isinstance" = none
  m_range : mg "range" = none
  m_bool : mg "bool" = none
  m_list : mg "list" = none
  m_tuple : mg "tuple" = none
  m_sorted : mg "sorted" = none
  m_enumerate : mg "enumerate" = none
  m_zip : mg "zip" = none
  m_ValueError : mg "ValueError" = none
  C_BadLiteral : Addr
  c_BadLiteral : mg "BadLiteral" = some (.ref C_BadLiteral)
  C_PaperError : Addr
  c_PaperError : mg "PaperError" = some (.ref C_PaperError)
  xb_PaperError : X2.XB K C_PaperError
  xo_BadLiteral : X2.XO K C_BadLiteral f_BadLiteral_init "literal"
  e_BadLiteral_BadLiteral : PySem.W.exmOne K (.ref C_BadLiteral) (.ref C_BadLiteral) = some true
  e_BadLiteral_PaperError : PySem.W.exmOne K (.ref C_BadLiteral) (.ref C_PaperError) = some true
  k_BadLiteral_PaperError : PySem.W.kitOne K (.ref C_BadLiteral) (.ref C_PaperError) = some true
  k_BadLiteral_BadLiteral : PySem.W.kitOne K (.ref C_BadLiteral) (.ref C_BadLiteral) = some true
  k_BadLiteral_ValueError : PySem.W.kitOne K (.ref C_BadLiteral) (.type "ValueError") = some true
  c_bw : Addr
  P_bw : Addr
  FT_bw : FunT K "_best_watched" "Watching._best_watched" s_Watching_best_watched f_Watching_best_watched fd_Watching_best_watched c_bw
end L

namespace L
open PySem PySem.Spec PyProof.Rows L2 Z
section
variable {P : Program} {w : World} {K : PySem.W.Frag} {mg : Str → Option Value} {base : Heap}
def spPool (K : PySem.W.Frag) : Sp := fun vs H Q _ => ∃ (a : Addr) (ns : List Int) (k : Int), vs = [.ref a, .int k] ∧ SqL K H a (ns.map V.int) ∧ ns.length ≤ 1000 ∧ 0 ≤ k ∧ k < 2 ^ 62 ∧ ∀ q o, H q = none → IsPool o → Q (.ref q) (upd H q o)
def spTake : Sp := fun vs H Q _ => ∃ (q : Addr) (o : HO) (n : Int), vs = [.ref q, .int n] ∧ H q = some o ∧ IsPool o ∧ 0 < n ∧ n < 1073741824 ∧ ∀ r o', 0 ≤ r → r < n → IsPool o' → Q (.int r) (upd H q o')
theorem ok_take (T : Txt K mg) : FnOk P w K mg base CX0 1 T.f_take T.fd_take ["_law_pool_here", "_law_size"] spTake := by
  refine T.F_take.ok sc_take (fun vs H Q E h => ?_) (fun cdv A outer s H vs Q E hr h => ?_)
  · obtain ⟨q, o, n, rfl, _⟩ := h
    rfl
  · obtain ⟨q, o, n, rfl, ho, ⟨c, k, b, s', rfl⟩, hn, hn2, hq⟩ := h
    refine ⟨_, (pss_cons (ps_set (i := 2) sc_take.nd rfl (.inl rfl) (pe_ix ix_list (pv 0) pe_int (fun _ _ => rfl)))
 (pss_cons (ps_asg (pe_op op_add (pv 2) pe_int) (pg_sub (pv 0) pe_int set_list))
 (pss_cons (ps_set (i := 3) sc_take.nd rfl (.inl rfl) (pe_ix ix_list (pv 0) pe_int (fun _ _ => rfl)))
 (pss_cons (ps_if (PW.pt (pw_and (pt_val (pe_ix ix_list (pv 0) pe_int (fun _ _ => rfl))) (pw_and1 (pt_cmpR op_gt (pv 3) pe_int (nomark _))))) (pss_cons (ps_asg (pe_op op_fdiv (pv 3) (pv 1)) (pg_sub (pv 0) pe_int set_list))
 (pss_one (ps_ret (pe_op op_mod (pe_callTy call_int1 (by rfl) T.m_int (by decide +kernel) (pa_cons (pv 3) pa_nil)) (pv 1))))) pss_nil)
 (pss_cons (ps_if (pt_val (pe_ix ix_list (pv 0) pe_int (fun _ _ => rfl))) (pss_one (ps_set (i := 3) sc_take.nd rfl (.inl rfl) (pe_ix ix_list (pv 0) pe_int (fun _ _ => rfl)))) pss_nil)
 (pss_cons (ps_set (i := 4) sc_take.nd rfl (.inl rfl) (pe_op op_mod (pe_callTy call_int1 (by rfl) T.m_int (by decide +kernel) (pa_cons (pe_op op_add (pe_op op_add (pv 3) (pe_op op_mul pe_int (pv 2))) pe_int) pa_nil)) pe_int))
 (pss_cons (ps_set (i := 4) sc_take.nd rfl (.inl rfl) (pe_op op_mod (pe_callTy call_int1 (by rfl) T.m_int (by decide +kernel) (pa_cons (pe_op op_mul (pv 4) (pe_op op_add (pv 4) pe_int)) pa_nil)) pe_int))
 (pss_cons (ps_set (i := 4) sc_take.nd rfl (.inl rfl) (pe_op op_mod (pe_callTy call_int1 (by rfl) T.m_int (by decide +kernel) (pa_cons (pe_op op_add (pe_op op_mul (pv 4) (pe_op op_add (pv 4) pe_int)) (pe_op op_mul pe_int (pv 2))) pa_nil)) pe_int))
 (pss_one (ps_ret (pe_op op_mod (pe_callTy call_int1 (by rfl) T.m_int (by decide +kernel) (pa_cons (pe_op op_fdiv (pv 4) pe_int) pa_nil)) (pv 1)))))))))))), ?_⟩
    refine Z.w_start (σ' := [some (.ref q), some (.int n), none, none, none]) rfl ?_
    walk_at "w"
    cases b with
    | true =>
      walk_at "w"
      walk_at "wi"
      all_goals walk_at "w"
      all_goals exact hq _ _ (Int.emod_nonneg _ (by omega)) (Int.emod_lt_of_pos _ hn) ⟨_, _, _, _, rfl⟩
    | false =>
      walk_at "w"
      all_goals exact hq _ _ (Int.emod_nonneg _ (by omega)) (Int.emod_lt_of_pos _ hn) ⟨_, _, _, _, rfl⟩
theorem ok_pool (T : Txt K mg) : FnOk P w K mg base CX0 1 T.f_pool T.fd_pool ["_law_script", "_law_k"] (spPool K) := by
  refine T.F_pool.ok sc_pool (fun vs H Q E h => ?_) (fun cdv A outer s H vs Q E hr h => ?_)
  · obtain ⟨a, ns, k, rfl, _⟩ := h
    rfl
  · obtain ⟨a, ns, k, rfl, hS, hl, hk, hk2, hq⟩ := h
    refine ⟨_, (pss_cons (ps_set (i := 2) sc_pool.nd rfl (.inl rfl) (pe_op op_add (pe_op op_mul pe_int (pv 1)) pe_int))
 (pss_cons (ps_set (i := 3) sc_pool.nd rfl (.inl rfl) (pe_op op_add (pe_op op_mul pe_int (pv 1)) pe_int))
 (pss_cons (ps_if (pt_cmpR op_lt (pv 1) (pe_callB call_len_seq (by rfl) T.m_len (by decide +kernel) (pa_cons (pv 0) pa_nil)) (nomark _)) (pss_one (ps_set (i := 2) sc_pool.nd rfl (.inl rfl) (pe_ix ix_list (pv 0) (pv 1) (fun _ _ => rfl)))) pss_nil)
 (pss_cons (ps_if (pt_cmpR op_lt (pe_op op_add (pv 1) pe_int) (pe_callB call_len_seq (by rfl) T.m_len (by decide +kernel) (pa_cons (pv 0) pa_nil)) (nomark _)) (pss_one (ps_set (i := 3) sc_pool.nd rfl (.inl rfl) (pe_ix ix_list (pv 0) (pe_op op_add (pv 1) pe_int) (fun _ _ => rfl)))) pss_nil)
 (pss_one (ps_ret (pe_lst (pa_cons (pv 2) (pa_cons pe_int (pa_cons (pe_cmpR op_ge (pv 2) (pe_op op_pow pe_int pe_int) (nomark _)) (pa_cons (pv 3) pa_nil))))))))))), ?_⟩
    refine Z.w_start (σ' := [some (.ref a), some (.int k), none, none]) rfl ?_
    by_cases h1 : k < ns.length
    · obtain ⟨z1, a1, _⟩ := pick hk h1
      by_cases h2 : k + 1 < ns.length
      · obtain ⟨z2, a2, _⟩ := pick (by omega) h2
        walk_at "w"
        exact hq _ _ (by assumption) ⟨_, _, _, _, rfl⟩
      · walk_at "w"
        exact hq _ _ (by assumption) ⟨_, _, _, _, rfl⟩
    · walk_at "w"
      exact hq _ _ (by assumption) ⟨_, _, _, _, rfl⟩
end
end L

namespace L
open PySem PySem.Spec PyProof.Rows L2 Z
section
variable {P : Program} {w : World} {K : PySem.W.Frag} {mg : Str → Option Value} {base : Heap}
def spWhole : Sp := fun vs H Q _ => ∃ i : Int, vs = [.int i] ∧ Q (.bl true) H
theorem use_whole {i : Int} {H : Hp} {Q : VK} {E : XK} (q : Q (.bl true) H) : spWhole [.int i] H Q E := ⟨i, rfl, q⟩
theorem ok_whole (T : Txt K mg) : FnOk P w K mg base CX0 1 T.f_whole T.fd_whole ["_law_value"] spWhole := by
  refine T.F_whole.ok sc_whole (fun vs H Q E h => ?_) (fun cdv A outer s H vs Q E hr h => ?_)
  · obtain ⟨i, rfl, _⟩ := h
    rfl
  · obtain ⟨i, rfl, hq⟩ := h
    refine ⟨_, (pss_one (ps_ret (pe_and (pe_callB call_isi (by rfl) T.m_isinstance (by decide +kernel) (pa_cons (pv 0) (pa_cons (pe_bltn (v := .ty "int") (by rfl) T.m_int (by decide +kernel) rfl) pa_nil))) (pe_one (pe_not (pe_callB call_isi (by rfl) T.m_isinstance (by decide +kernel) (pa_cons (pv 0) (pa_cons (pe_bltn (v := .ty "bool") (by rfl) T.m_bool (by decide +kernel) rfl) pa_nil)))))))), ?_⟩
    refine Z.w_start (σ' := [some (.int i)]) rfl ?_
    walk_at "w"
    exact hq
end
end L

namespace M
open PySem PySem.Spec PyProof.Rows L2
/-- strictly ascending by absolute values -/
def Asc (ys : List Int) : Prop := ys.Pairwise fun i j => i.natAbs < j.natAbs
theorem asc_uniq : ∀ ys zs : List Int, Asc ys → Asc zs → (∀ x, x ∈ ys ↔ x ∈ zs) → ys = zs
  | [], [], _, _, _ => rfl
  | [], z :: zs, _, _, h => absurd ((h z).mpr List.mem_cons_self) (by simp)
  | y :: ys, [], _, _, h => absurd ((h y).mp List.mem_cons_self) (by simp)
  | y :: ys, z :: zs, hy, hz, h => by
    obtain ⟨hy1, hy2⟩ := List.pairwise_cons.mp hy
    obtain ⟨hz1, hz2⟩ := List.pairwise_cons.mp hz
    have e : y = z := by
      rcases List.mem_cons.mp ((h y).mp List.mem_cons_self) with e | m
      · exact e
      · rcases List.mem_cons.mp ((h z).mpr List.mem_cons_self) with e | m2
        · exact e.symm
        · have a := hz1 y m
          have b := hy1 z m2
          omega
    subst e
    have t : ys = zs := asc_uniq ys zs hy2 hz2 fun x => by
      constructor
      · intro m
        rcases List.mem_cons.mp ((h x).mp (List.mem_cons_of_mem _ m)) with e | m2
        · have := hy1 x m
          rw [e] at this
          omega
        · exact m2
      · intro m
        rcases List.mem_cons.mp ((h x).mpr (List.mem_cons_of_mem _ m)) with e | m2
        · have := hz1 x m
          rw [e] at this
          omega
        · exact m2
    rw [t]
def Clash (ls : List Int) : Prop := ∃ l ∈ ls, -l ∈ ls
/-- the clause of a list -/
def ClOf (ls ys : List Int) : Prop := Asc ys ∧ ∀ x, x ∈ ys ↔ x ∈ ls
/-- nondecreasing and without a clash and twins -/
theorem asc_of {ys : List Int} (h : ys.Pairwise fun i j => i.natAbs ≤ j.natAbs) (hn : ys.Nodup) (hc : ¬ Clash ys) : Asc ys := by
  unfold Asc
  have h2 := h.and hn
  refine List.Pairwise.imp_of_mem ?_ h2
  intro a b ha hb ⟨h1, h3⟩
  rcases Nat.lt_or_ge a.natAbs b.natAbs with h4 | h4
  · exact h4
  · exfalso
    have : a = b ∨ a = -b := by omega
    rcases this with e | e
    · exact h3 e
    · exact hc ⟨b, hb, by rw [← e]; exact ha⟩
/-- a dict of kept ints -/
def kd (ks : List Int) : List (Key × V) := ks.map fun k => (Sum.inl k, V.bl true)
theorem kd_get (ks : List Int) (x : Int) : (valV (kd ks) (Sum.inl x)).isSome = decide (x ∈ ks) := by
  rw [← valV_any]
  unfold kd
  rw [List.any_map]
  induction ks with
  | nil => rfl
  | cons k r ih =>
    rw [List.any_cons, ih]
    simp only [Function.comp, List.mem_cons]
    by_cases h : k = x
    · subst h; simp
    · have h' : ¬ (Sum.inl k : Key) = Sum.inl x := fun z => h (Sum.inl.inj z)
      have h'' : ¬ x = k := fun z => h z.symm
      simp [h', h'']
theorem kd_keys (ks : List Int) : (kd ks).map (·.1) = ks.map Sum.inl := by
  unfold kd
  rw [List.map_map]
  rfl
theorem kd_len (ks : List Int) : (kd ks).length = ks.length := by
  unfold kd
  rw [List.length_map]
theorem kd_put (ks : List Int) (x : Int) : putK (kd ks) (Sum.inl x) (.bl true) = kd (if x ∈ ks then ks else ks ++ [x]) := by
  by_cases h : x ∈ ks
  · rw [if_pos h]
    unfold putK
    have e : (valV (kd ks) (Sum.inl x)).isSome = true := by rw [kd_get]; exact decide_eq_true h
    rw [valV_any, if_pos e]
    unfold kd
    rw [List.map_map]
    refine List.map_congr_left fun k _ => ?_
    simp only [Function.comp]
    split <;> rfl
  · rw [if_neg h, putK_new]
    · unfold kd
      rw [List.map_append]
      rfl
    · have e : (valV (kd ks) (Sum.inl x)).isSome = false := by rw [kd_get]; exact decide_eq_false h
      exact Option.isNone_iff_eq_none.mp (by rw [← Option.not_isSome, e]; rfl)
theorem inV_int (x : Int) (ls : List Int) : inV (.int x) (ls.map V.int) = decide (x ∈ ls) := by
  unfold inV
  rw [List.any_map]
  induction ls with
  | nil => rfl
  | cons k r ih =>
    rw [List.any_cons, ih]
    have e : eqV (.int k) (.int x) = decide (k = x) := by
      first | rfl | simp [eqV]
    simp only [Function.comp, e, List.mem_cons]
    by_cases h : k = x
    · subst h; simp
    · have h'' : ¬ x = k := fun z => h z.symm
      simp [h, h'']
theorem flat_ints (ls : List Int) : (ls.map V.int).all flatV = true := by
  rw [List.all_map]
  exact List.all_eq_true.mpr fun _ _ => rfl
/-- what is kept so far: the taken ones, each once, without a clash -/
def KeptI (ls : List Int) (i : Nat) (ks : List Int) : Prop := ks.Nodup ∧ (∀ x, x ∈ ks ↔ x ∈ ls.take i) ∧ ¬ Clash ks ∧ ks.length ≤ i
theorem kept_zero (ls : List Int) : KeptI ls 0 [] := ⟨List.nodup_nil, fun x => by simp, fun ⟨_, h, _⟩ => by simp at h, Nat.le_refl _⟩
theorem kept_next {ls ks : List Int} {i : Nat} {l : Int} (h : KeptI ls i ks) (hl : ls[i]? = some l) (h0 : l ≠ 0) (hc : -l ∉ ks) : KeptI ls (i + 1) (if l ∈ ks then ks else ks ++ [l]) := by
  obtain ⟨h1, h2, h3, h4⟩ := h
  have ht : ls.take (i + 1) = ls.take i ++ [l] := by rw [List.take_add_one, hl]; rfl
  by_cases hm : l ∈ ks
  · rw [if_pos hm]
    refine ⟨h1, fun x => ?_, h3, by omega⟩
    rw [ht, List.mem_append, h2 x]
    constructor
    · exact fun z => .inl z
    · rintro (z | z)
      · exact z
      · rw [List.mem_singleton.mp z]
        exact (h2 l).mp hm
  · rw [if_neg hm]
    refine ⟨?_, fun x => by rw [ht, List.mem_append, List.mem_append, h2 x], ?_, by rw [List.length_append, List.length_singleton]; omega⟩
    · rw [List.nodup_append]
      refine ⟨h1, List.nodup_cons.mpr ⟨by simp, List.nodup_nil⟩, fun a ha b hb e => ?_⟩
      rw [List.mem_singleton.mp hb] at e
      exact hm (e ▸ ha)
    · rintro ⟨x, hx, hx2⟩
      rcases List.mem_append.mp hx with a | a <;> rcases List.mem_append.mp hx2 with b | b
      · exact h3 ⟨x, a, b⟩
      · have e := List.mem_singleton.mp b
        have : x = -l := by omega
        rw [this] at a
        exact hc a
      · rw [List.mem_singleton.mp a] at b
        exact hc b
      · have e1 := List.mem_singleton.mp a
        have e2 := List.mem_singleton.mp b
        omega
end M
namespace M
open PySem PySem.Spec PyProof.Rows L2
/-- the due so far, by the sizes that were looked at -/
def DueI (ls ns : List Int) (i : Nat) (D : List Int) : Prop := Asc D ∧ (∀ x, x ∈ D ↔ x ∈ ls ∧ (x.natAbs : Int) ∈ ns.take i) ∧ D.length ≤ i
theorem due_zero (ls ns : List Int) : DueI ls ns 0 [] := ⟨List.Pairwise.nil, fun x => by simp, Nat.le_refl _⟩
theorem due_next {ls ns D : List Int} {i : Nat} {s lit : Int} (h : DueI ls ns i D) (hs : ns.Pairwise (· ≤ ·)) (hi : ns[i]? = some s) (hn : ∀ x ∈ ls, -x ∉ ls) (hl : lit ∈ ls) (ha : (lit.natAbs : Int) = s) :
    DueI ls ns (i + 1) (if lit ∈ D then D else D ++ [lit]) := by
  obtain ⟨h1, h2, h3⟩ := h
  have ht : ns.take (i + 1) = ns.take i ++ [s] := by rw [List.take_add_one, hi]; rfl
  have one : ∀ x ∈ ls, (x.natAbs : Int) = s → x = lit := by
    intro x hx e
    have : x = lit ∨ x = -lit := by omega
    rcases this with e | e
    · exact e
    · rw [e] at hx
      exact absurd hx (hn lit hl)
  have mem : ∀ x, (x ∈ ls ∧ (x.natAbs : Int) ∈ ns.take (i + 1)) ↔ (x ∈ D ∨ x = lit) := by
    intro x
    rw [ht, List.mem_append, List.mem_singleton, h2 x]
    constructor
    · rintro ⟨a, b | b⟩
      · exact .inl ⟨a, b⟩
      · exact .inr (one x a b)
    · rintro (⟨a, b⟩ | b)
      · exact ⟨a, .inl b⟩
      · rw [b]
        exact ⟨hl, .inr ha⟩
  by_cases hm : lit ∈ D
  · rw [if_pos hm]
    refine ⟨h1, fun x => ?_, by omega⟩
    rw [mem]
    constructor
    · exact .inl
    · rintro (a | a)
      · exact a
      · rw [a]
        exact hm
  · rw [if_neg hm]
    refine ⟨?_, fun x => ?_, by rw [List.length_append, List.length_singleton]; omega⟩
    · unfold Asc
      rw [List.pairwise_append]
      refine ⟨h1, List.pairwise_singleton _ _, fun x hx y hy => ?_⟩
      rw [List.mem_singleton.mp hy]
      obtain ⟨a, b⟩ := (h2 x).mp hx
      have p := hs.sublist (List.take_sublist (i + 1) ns)
      rw [ht, List.pairwise_append] at p
      have le := p.2.2 _ b s (List.mem_singleton.mpr rfl)
      have ne : (x.natAbs : Int) ≠ s := by
        intro e
        exact hm ((one x a e) ▸ hx)
      omega
    · rw [mem, List.mem_append, List.mem_singleton]
theorem due_end {ls ns D : List Int} (h : DueI ls ns ns.length D) (hp : ns.Perm (ls.map fun l : Int => (l.natAbs : Int))) : ClOf ls D := by
  refine ⟨h.1, fun x => ?_⟩
  rw [h.2.1, List.take_length]
  constructor
  · exact fun z => z.1
  · exact fun z => ⟨z, hp.mem_iff.mpr (List.mem_map.mpr ⟨x, z, rfl⟩)⟩
end M

namespace L
open PySem PySem.Spec PyProof.Rows L2 Z DT
/-! heaps: what stays -/
/-- all but lists stay -/
def Mo (H H' : Hp) : Prop := ∀ b x, (∀ l, x ≠ HO.lst l) → H b = some x → H' b = some x
/-- all but lists and dicts stay -/
def Tu (H H' : Hp) : Prop := ∀ b x, (∀ l, x ≠ HO.lst l) → (∀ l, x ≠ HO.dK l) → H b = some x → H' b = some x
section
variable {H H' H1 H2 : Hp} {p q d : Addr} {o : HO}
theorem Mo.refl (H : Hp) : Mo H H := fun _ _ _ e => e
theorem Mo.trans (a : Mo H H1) (b : Mo H1 H2) : Mo H H2 := fun c x n e => b c x n (a c x n e)
theorem Mo.of (s : Same H H') : Mo H H' := fun b x _ e => s b x e
theorem Mo.new (m : Mo H H') (h : H' p = none) : Mo H (upd H' p o) := fun b x n e => by
  rw [upd_ne (ne_of_none (m b x n e) h)]
  exact m b x n e
theorem Mo.own (m : Mo H H') (h : H p = none) : Mo H (upd H' p o) := fun b x n e => by
  rw [upd_ne (ne_of_none e h)]
  exact m b x n e
theorem Mo.lst {l : List V} (m : Mo H H') (h : H p = some (.lst l)) : Mo H (upd H' p o) := fun b x n e => by
  rw [upd_ne (fun z => by subst z; rw [h] at e; exact n _ (Option.some.inj e).symm)]
  exact m b x n e
theorem Tu.of (m : Mo H H') : Tu H H' := fun b x n _ e => m b x n e
theorem Tu.ofS (m : Same H H') : Tu H H' := fun b x _ _ e => m b x e
theorem Tu.trans (a : Tu H H1) (b : Tu H1 H2) : Tu H H2 := fun c x n n2 e => b c x n n2 (a c x n n2 e)
theorem Tu.dict {kvs : List (Key × V)} (h : H d = some (.dK kvs)) : Tu H (upd H d o) := fun b x n n2 e => by
  rw [upd_ne (fun z => by subst z; rw [h] at e; exact n2 _ (Option.some.inj e).symm)]
  exact e
def PoolAt (H : Hp) (q : Addr) : Prop := ∃ o, H q = some o ∧ IsPool o
structure PX (q : Addr) (H H' : Hp) : Prop where
  mo : Mo H H'
  pl : PoolAt H' q
  sx : ∀ b x, b ≠ q → H b = some x → H' b = some x
theorem PX.trans (a : PX q H H1) (b : PX q H1 H2) : PX q H H2 := ⟨a.1.trans b.1, b.2, fun c x n e => b.3 c x n (a.3 c x n e)⟩
theorem PoolAt.same (h : PoolAt H q) (s : Same H H') : PoolAt H' q := by
  obtain ⟨o, h1, h2⟩ := h
  exact ⟨o, s _ _ h1, h2⟩
theorem PX.same (a : PX q H H1) (b : Same H1 H2) : PX q H H2 := ⟨a.1.trans (.of b), a.2.same b, fun c x n e => b c x (a.3 c x n e)⟩
theorem PX.refl (h : PoolAt H q) : PX q H H := ⟨.refl H, h, fun _ _ _ e => e⟩
theorem PX.new (a : PX q H H1) (h : H1 p = none) : PX q H (upd H1 p o) := a.same (same_of (Same.refl _) h)
theorem PX.take (h : PoolAt H q) (hp : IsPool o) : PX q H (upd H q o) := by
  obtain ⟨o', h1, c, k, b, s, rfl⟩ := h
  exact ⟨(Mo.refl H).lst h1, ⟨o, upd_same, hp⟩, fun b x n e => by rw [upd_ne n]; exact e⟩
theorem PX.dict (a : PX q H H1) {kvs : List (Key × V)} {o2 : HO} (h : H d = none) (h1 : H1 d = some (.dK kvs)) (e : o2 = o2) : PX q H (upd H1 d o2) := by
  refine ⟨a.1.own h, ?_, fun b x n e => by rw [upd_ne (ne_of_none e h)]; exact a.3 b x n e⟩
  obtain ⟨o', h2, hp⟩ := a.2
  refine ⟨o', ?_, hp⟩
  rw [upd_ne]
  · exact h2
  · rintro rfl
    rw [h2] at h1
    obtain ⟨c, k, b, s, rfl⟩ := hp
    cases h1
theorem PX.own (h : H q = none) (a : PX q (upd H q o) H') : Same H H' := fun b x e => a.3 b x (ne_of_none e h) (by rw [upd_ne (ne_of_none e h)]; exact e)
end
section
variable {K : PySem.W.Frag} {H H' : Hp}
theorem sqT_tu {a : Addr} {xs : List V} (h : SqT K H a xs) (s : Tu H H') : SqT K H' a xs := by
  rcases h with (h | ⟨o, h⟩) | h
  · exact .inl (.inl (s _ _ (fun l e => by cases e) (fun l e => by cases e) h))
  · exact .inl (.inr ⟨o, s _ _ (fun l e => by cases e) (fun l e => by cases e) h⟩)
  · exact .inr h
theorem w_tdget {td ty : TE} {σ : L2.St} {Q : VK} (h : td σ H fun x H1 => ty σ H1 fun y H2 => ∃ a v, x = .ref a ∧ DGet H2 a y (some v) ∧ Q v H2) : tDGet td ty σ H Q := h
theorem w_tdget2 {td ty tx : TE} {σ : L2.St} {Q : VK} (h : td σ H fun x H1 => ∃ a, x = .ref a ∧ IsD H1 a ∧ ty σ H1 fun y H2 => tx σ H2 fun z H3 => ∃ o, DGet H3 a y o ∧ Q (o.getD z) H3) : tDGet2 td ty tx σ H Q := h
theorem seqIf {tt : TT} {t t' u : TS} {D : Ends} {σ : L2.St} (k : L2.St → Hp → Prop) (h : ∀ R : L2.St → Hp → Prop, (∀ σ' H', k σ' H' → R σ' H') → tIfS tt t t' { D with nx := R } σ H) (hk : ∀ σ' H', k σ' H' → u D σ' H') : tSeq (tIfS tt t t') u D σ H := h (u D) hk
theorem seqAnd {ta tb : TE} {g : TG} {u : TS} {D : Ends} {σ : L2.St} (k : V → Hp → Prop) (h : ∀ Q : VK, (∀ x H1, k x H1 → Q x H1) → tAndV ta tb σ H Q) (hk : ∀ x H1, k x H1 → g x σ H1 (u D)) : tSeq (tAsg (tAndV ta tb) g) u D σ H := h _ hk
end
end L
namespace L
open PySem PySem.Spec PyProof.Rows L2 Z DT
theorem PX.refl' {q : Addr} {H H' : Hp} (h : PX q H H') : PoolAt H' q := h.2
section
variable {P : Program} {w : World} {K : PySem.W.Frag} {mg : Str → Option Value} {base : Heap}
theorem tyx_T {H : Hp} {a : Addr} {xs : List V} (h : SqT K H a xs) : TyX K H (.ref a) (.type "tuple") := by
  rcases h with (h | ⟨o, h⟩) | ⟨o, its, n, h, c, _⟩
  · exact .base (.tup h)
  · exact .fTuple h
  · exact .kTuple h c
theorem w_isiT_T {H : Hp} {p : Addr} {xs : List V} {Q : VK} (h : SqT K H p xs) (q : Q (.bl true) H) : rIsi K [.ref p, .ty "tuple"] H Q := w_isi (.ty _) (tyx_T h) (kit_ty (by decide +kernel)) q
theorem use_takeP {q : Addr} {n : Int} {H : Hp} {Q : VK} {E : XK} (h : PoolAt H q) (h1 : 0 < n) (h2 : n < 1073741824) (hq : ∀ r H', PX q H H' → 0 ≤ r → r < n → Q (.int r) H') : spTake [.ref q, .int n] H Q E := by
  obtain ⟨o, ho, hp⟩ := id h
  exact ⟨q, o, n, rfl, ho, hp, h1, h2, fun r o' a b c => hq r _ (.take h c) a b⟩
end
end L

namespace X2
open PySem PySem.Spec PyProof.Rows L2
theorem w_ost1 {K : PySem.W.Frag} {σ : L2.St} {H : Hp} {D : Ends} {f : Str} {a C : Addr} {y : V} {j k : Nat} (e1 : σ[k]? = some (some y)) (e2 : σ[j]? = some (some (.ref a))) (T : OexC K C) (no : PySem.W.findIn K (.ref C) f = some none) (h : H a = some (exo a C none)) (q : ∀ dx, H dx = none → dx ≠ a → D.nx σ (upd (upd H dx (exd dx [(f, y)])) a (exo a C (some dx)))) :
    tOst K f (tVar j) (tVar k) D σ H := ⟨y, e1, .ref a, e2, a, C, rfl, T, no, .inl ⟨h, q⟩⟩
end X2
namespace X2
open PySem PySem.Spec PyProof.Rows L2
open _root_.SX (S S_len S_cat)
section
variable {σ : L2.St} {H : Hp} {Q : VK} {te t : TE} {ts : List TE} {a m : List Nat} {R : Str → Hp → Prop}
def rFmt : V → Hp → VK → Prop := fun x H1 Q => (∃ y : Str, x = .str y ∧ y.length ≤ sizeLine ∧ Q (.str y) H1) ∨ ∃ i : Int, x = .int i ∧ i.natAbs.log2 < 1920 ∧ Q (.str (toString i)) H1
theorem w_fmt (h : te σ H fun x H1 => rFmt x H1 Q) : tFmt te σ H Q := h
theorem use_fmt (hl : m.length ≤ 100000) (q : Q (.str (S m)) H) : rFmt (.str (S m)) H Q := .inl ⟨_, rfl, by rw [S_len]; exact Nat.le_trans hl (by decide), q⟩
def rJ (ts : List TE) (acc : Str) (σ : L2.St) : V → Hp → (Str → Hp → Prop) → Prop := fun x H1 R => ∃ y : Str, x = .str y ∧ (acc ++ y).length ≤ sizeLine ∧ tJs ts (acc ++ y) σ H1 R
theorem w_j0 (h : tJs ts (S []) σ H R) : tJs ts Str.empty σ H R := h
theorem w_j1 {acc : Str} (h : t σ H fun x H1 => rJ ts acc σ x H1 R) : tJs (t :: ts) acc σ H R := h
theorem use_j (hl : (a ++ m).length ≤ 100000) (h : tJs ts (S (a ++ m)) σ H R) : rJ ts (S a) σ (.str (S m)) H R := ⟨_, rfl, by rw [S_cat, S_len]; exact Nat.le_trans hl (by decide), by rw [S_cat]; exact h⟩
theorem w_fmtI1 {i : Int} {j : Nat} (e : σ[j]? = some (some (.int i))) (hi : i.natAbs < 10 ^ 60) (q : Q (.str (S (MT.nz i))) H) : tFmtR (tVar j) σ H Q := w_fmtI e (log_int hi) (by rw [← MT.S_nz] at q; exact q)
theorem nz_len60 {i : Int} (hi : i.natAbs < 10 ^ 60) : (MT.nz i).length ≤ 61 := by
  have k := TL.numL_len (n := i.natAbs) (k := 60) (by decide) hi
  unfold MT.nz
  split
  · rw [List.length_cons]
    omega
  · omega
theorem w_jn1 {acc : Str} (h : R acc H) : tJs [] acc σ H R := h
end
end X2

namespace X2
open PySem PySem.Spec PyProof.Rows L2
/-- C(e, ..) as what is raised, told with its context, where nothing is handled -/
theorem pmkN {X : Cx} {CW : CXT} {x : Str} {e : Expr} {es : List Expr} {ta : TA} {p pos : Pos} {C fI : Addr} {k : Nat} {fd : FuncData} {ps : List Str} {sp : Sp} (T : OexC X.K C)
    (ic : PySem.W.findIn X.K (.ref C) "__init__" = some (some (.ref fI))) (ti : PySem.W.typeIn X.K (.ref fI) = some (.type "function"))
    (G : FnOk X.prog X.w X.K X.mg X.base CW k fI fd ps sp) (room : Room (k + 1) X.A) (bi : Binds X.K fd ps []) (pass : Passes CW X (fun _ _ _ => False)) (gl : Gl X x) (mm : X.mg x = some (.ref C)) (ha : PA X (e :: es) ta)
    (hdb : (x == ("__debug__" : Str)) = false := by decide) (he : starEach (e :: es) X.env = (false, eval e X.env) :: starEach es X.env := by rfl) (hpl : (backTo pos (starEach es X.env)).any (·.1) = false := by rfl) :
    L2N.PMk X (.Call (.Name x p) (e :: es) [] pos) (tMkO C sp [] ta) := by
  intro pins s σ H R J q0
  obtain ⟨c1, c2, c3, c4, bm, c5, c6, c7, c8, c9, c10, c11, c12, c13, c14, hC, hbm⟩ := T.cls
  refine wpAny_Call_Name_kw (ld_glob J gl mm ?_ hdb)
  refine PySem.W.callWith_K (h₀ := X.base) J.ok.mod.kin T.kC (thn (ha.run pos pins s σ H _ J q0) fun args t1 w1 => ?_) he hpl
  obtain ⟨vals, Hs, J1, rel, small, cont⟩ := w1
  refine ⟨J1.kIn, ?_⟩
  show wpAny _ _ (call (.ref C) args) _ _ _
  obtain ⟨hp, gs, dr, tk, os⟩ := t1
  let N := hp.objs.size + 1
  have le : hp.objs.size ≤ N := Nat.le_succ _
  have free : Hs N = none := J1.hok.fresh le
  have wish := cont N free
  let h2 := (hp.push (PySem.W.kdv_tup args)).push (PySem.HandSPX.excO C hp.objs.size)
  have keep : ∀ b o, hp.get? b = some o → h2.get? b = some o := fun b o z => Heap.get?_push_of_some _ (Heap.get?_push_of_some _ z)
  have made : h2.get? N = some (PySem.HandSPX.excO C hp.objs.size) := by
    show Heap.get? (Heap.push (hp.push (PySem.W.kdv_tup args)) (PySem.HandSPX.excO C hp.objs.size)) (hp.objs.size + 1) = _
    heap_get
  have J2 : Inv X pins σ (upd Hs N (exo N C none)) ⟨h2, gs, dr, tk, os⟩ := J1.laid (t' := tk) (a := N) (o := exo N C none) (h' := h2) keep le (exo_ok made)
  have rel2 : Vals (V.ref N :: (vals ++ [])) (Value.ref N :: (args ++ [])) := .cons rfl (rel.append .nil)
  have cnt : (Value.ref N :: args ++ []).length = ps.length := by
    have z := rel2.length
    rw [G.len _ _ _ _ wish] at z
    exact z.symm
  have fit : args.length ≤ sizeLine := by
    rw [← Paired.length rel, sizeLine_eq]
    omega
  have run := G.run _ X.stack _ _ ⟨Value.ref N :: args, []⟩ (Value.ref N :: (args ++ [])) _ _ (fun _ _ _ => False) (room.make C args []) (J2.env0.make C args []) (show BindsTo _ fd ⟨Value.ref N :: args, []⟩ (ps.zip (Value.ref N :: (args ++ []))) from bi _ (Value.ref N :: args) J2.kIn cnt) rel2 wish
  refine wpAny_call (PySem.HandSPX.call_own F.excBase_ValueError (fun Y => PySem.HandSPX.refsVE_contains Y bm hbm) (J1.kIn _ _ hC) (PySem.W.looks_findIn J1.kIn ic) (fun self => PySem.W.bind_fn J1.kIn self ti) fit (codeAny_mono run fun r t2 out => ?_))
  cases r with
  | error er => exact pass pins σ _ _ er t2 J2 out
  | ok fl =>
    cases fl with
    | ret u =>
      obtain ⟨v, H2, os2, bare2, un2, ok2, rv, ev, d, fs, ea, ed, hd1, q2⟩ := out
      subst ev
      obtain ⟨hh, g2, d2, t2', os'⟩ := t2
      refine ⟨rv, ?_⟩
      obtain ⟨t0, G0, Jn, kG, gone, there, na⟩ := mk_end0 (d2 := d2) (t2 := t2') J1 le keep un2 ok2 os2 bare2 ea ed hd1
      exact ⟨N, _, _, ⟨G0, g2, d2, t2', os'⟩, _, .ref C, some d, rfl, Jn, kG, gone, there, ⟨rfl, rfl, fun vs z => by cases z; rfl⟩, rfl, rfl, na, rfl, bare2, raises_own T.exC T.tyC, q2⟩
    | next => exact out.elim
    | brk => exact out.elim
    | cont => exact out.elim
/-- in a suite over an exception whose context is told -/
theorem hot_of {X : Cx} {a : Addr} {oe : Obj} {cls : Value} {d : Option Addr} {pn : List (Addr × Obj)} (hz : L2N.Zn cls d oe) (hf : ∃ vs, oe.data = .fields vs) : L2H.HotC (X.suite a ((a, oe) :: pn)) := by
  obtain ⟨vs, hv⟩ := hf
  exact ⟨(a, oe), ⟨rfl, vs, hv, hz.2.2 vs hv⟩, List.mem_cons_self⟩
end X2
namespace X2
open PySem PySem.Spec PyProof.Rows L2
section
variable {P : Program} {w : World} {K : PySem.W.Frag} {mg : Str → Option Value} {base : Heap} {x qual : Str} {st : Stmt} {f : Addr} {fd : FuncData} {N ps : List Str} {k : Nat} {sp : Sp}
/-- a def that may raise, what flies told with its context -/
theorem okN (F : Fun K x qual st f fd) (S : FnScope N ps (defScope st)) (len : ∀ vs H Q E, sp vs H Q E → vs.length = ps.length)
    (b : ∀ (cdv : Value) (A : Around) (outer : List Env) (s : Shared) (H : Hp) (vs : List V) (Q : VK) (E : XK), Room k (A.deeper (envOfC qual (defScope st) s.heap.objs.size f cdv)) → sp vs H Q E → ∃ t, PSs (cxOf (L2N.CX P w) P w K mg base N qual (defScope st) f cdv A outer s H E) (defBody st) t ∧ t { nx := fun _ H' => Q .non H', rt := Q } (start N vs) H) :
    FnOk P w K mg base (L2N.CX P w) (k + 1) f fd ps sp := by
  obtain ⟨_, _, _, _, _, _, _, _, _, rfl, place, code⟩ := F.ex
  exact fn_of place code S len fun A outer s H vs Q E room want => b _ A outer s H vs Q E room want
/-- a def that is called while an exception is handled -/
theorem okH (F : Fun K x qual st f fd) (S : FnScope N ps (defScope st)) (len : ∀ vs H Q E, sp vs H Q E → vs.length = ps.length)
    (b : ∀ (cdv : Value) (A : Around) (outer : List Env) (s : Shared) (H : Hp) (vs : List V) (Q : VK) (E : XK) (p : Addr × Obj), L2H.Hot1 A p → L2H.RoomH k (A.deeper (envOfC qual (defScope st) s.heap.objs.size f cdv)) → sp vs H Q E →
      ∃ t, PSs (L2H.cxH CX0 P w K mg base N qual (defScope st) f cdv A outer s H E p) (defBody st) t ∧ t { nx := fun _ H' => Q .non H', rt := Q } (start N vs) H) : L2H.FnH P w K mg base CX0 (k + 1) f fd ps sp := by
  obtain ⟨_, _, _, _, _, _, _, _, _, rfl, place, code⟩ := F.ex
  exact L2H.fn_ofH place code S len fun A outer s H vs Q E p hot room want => b _ A outer s H vs Q E p hot room want
end
theorem passN {X : Cx} : Passes (L2N.CX X.prog X.w) X E0 := fun _ _ _ _ _ _ _ h => by
  obtain ⟨_, _, _, _, _, _, _, _, _, _, _, _, no⟩ := h
  exact no.elim
theorem takesN {X : Cx} : L2N.Takes X (fun _ _ _ _ => False) := fun _ _ x => by
  obtain ⟨_, _, _, _, _, _, _, _, _, _, _, _, _, _, _, _, no⟩ := x
  exact no.elim
theorem passH {X : Cx} {E : L2.St → XK} : ∀ σ, PassesAt CX0 X σ (E σ) := fun _ _ _ _ _ _ _ h => h.elim
theorem w_callSH {sp : Sp} {E : L2.St → XK} {t1 : TA} {σ : L2.St} {H : Hp} {Q : VK} (h : t1 σ H fun vs H1 => sp vs H1 Q (E σ)) : tCallS sp E t1 σ H Q := h
end X2

local macro_rules | `(tactic| walk_at "w1") => `(tactic| first
  | with_reducible refine X2.w_j0 ?_
  | with_reducible refine X2.w_j1 ?_
  | ((with_reducible refine' X2.use_j ?wh ?_); (case wh => walk_at "len"))
  | with_reducible refine X2.w_jn1 ?_
  | with_reducible refine X2.w_fmt ?_
  | ((with_reducible refine' X2.use_fmt ?wh ?_); (case wh => walk_at "len"))
  | fail "w1")

namespace X2
open PySem PySem.Spec PyProof.Rows L2
theorem roomM {k : Nat} {A : Around} (r : Room k A) (h : Option Value) : L2H.RoomH k (A.mark h) := ⟨r.dp, r.un⟩
theorem passH0 {X : Cx} : ∀ σ : L2.St, PassesAt CX0 X σ E0 := fun _ _ _ _ _ _ _ h => h.elim
end X2

local macro_rules | `(tactic| walk_at "w1") => `(tactic| first
  | ((with_reducible refine' X2.w_xfv ?ws ?wd ?wl ?_); (case ws => exact rfl); (case wd => walk_at "hp"); (case wl => (first | exact rfl | decide | simp)))
  | ((with_reducible refine' MT.w_strI ?wh ?_); (case wh => omega))
  | ((with_reducible refine Z.w_iteNF ?wh ?_); (case wh => exact rfl))
  | ((with_reducible refine Z.w_iteNT ?wh ?_); (case wh => (intro h; cases h; done)))
  | ((with_reducible refine' Z.w_rNe ?wh ?_); (case wh => exact rfl))
  | with_reducible refine X2.w_callSH ?_
  | fail "w1")

namespace L
open PySem PySem.Spec PyProof.Rows L2 Z M MR
/-! the trail's objects -/
def rV : Option Int → V
  | none => .non
  | some i => .int i
def nV (ns : List Nat) : List V := ns.map fun n : Nat => V.int (n : Int)
def plk (rs : List TRow) : List (Key × V) := rs.zipIdx.map fun p => (Sum.inl p.1.1, V.int ((p.2 : Nat) : Int))
def lits (rs : List TRow) : List Int := rs.map (·.1)
/-- no node stands twice -/
def NoTwin (rs : List TRow) : Prop := (rs.map fun r => r.1.natAbs).Nodup
structure TrO where
  dx : Addr
  dn : Addr
  ll : Addr
  lv : Addr
  lr : Addr
  dp : Addr
  ls : Addr
  lt : Addr
  /-- the tickets, the next one -/
  tk : List Nat
  nx : Nat
def TrO.push (t : TrO) : TrO := { t with tk := t.tk ++ [t.nx], nx := t.nx + 1 }
def TrO.cut (t : TrO) (m : Nat) : TrO := { t with tk := t.tk.take m }
def TrO.fs (t : TrO) (n : Int) : List (Str × V) := [("_nodes", .ref t.dn), ("_literals", .ref t.ll), ("_levels", .ref t.lv), ("_reasons", .ref t.lr), ("_places", .ref t.dp), ("_starts", .ref t.ls), ("_tickets", .ref t.lt), ("_next_ticket", .int n)]
structure TrAt (C : Addr) (H : Hp) (o : Addr) (t : TrO) (ns : List Int) (rs : List TRow) : Prop where
  obj : H o = some (.ins C t.dx (t.fs t.nx))
  nd : ∃ kn, H t.dn = some (.dK kn) ∧ ∀ i : Int, (valV kn (Sum.inl i)).isSome = decide (i ∈ ns)
  li : H t.ll = some (.lst ((lits rs).map V.int))
  le : H t.lv = some (.lst (nV (levs rs)))
  re : H t.lr = some (.lst (rs.map fun r => rV r.2))
  pl : H t.dp = some (.dK (plk rs))
  st : H t.ls = some (.lst (nV (starts rs)))
  tic : H t.lt = some (.lst (nV t.tk)) ∧ t.tk.length = rs.length ∧ t.tk.Pairwise (· < ·) ∧ ∀ x ∈ t.tk, x < t.nx
  df : [t.ll, t.lv, t.lr, t.ls, t.lt].Nodup ∧ t.dn ≠ t.dp
theorem TrAt.ob {C : Addr} {H : Hp} {o : Addr} {t : TrO} {ns : List Int} {rs : List TRow} (h : TrAt C H o t ns rs) : ∃ n, H o = some (.ins C t.dx (t.fs n)) := ⟨_, h.obj⟩
theorem TrAt.ti {C : Addr} {H : Hp} {o : Addr} {t : TrO} {ns : List Int} {rs : List TRow} (h : TrAt C H o t ns rs) : ∃ ts, H t.lt = some (.lst ts) ∧ ts.length = rs.length := ⟨_, h.tic.1, (List.length_map _).trans h.tic.2.1⟩
theorem plk_val : ∀ (rs : List TRow) (j : Nat) (l : Int), valV (rs.zipIdx j |>.map fun p => ((Sum.inl p.1.1 : Key), V.int ((p.2 : Nat) : Int))) (Sum.inl l) = ((lits rs).idxOf? l).map fun i => V.int ((i + j : Nat) : Int)
  | [], j, l => rfl
  | r :: rs, j, l => by
    rw [List.zipIdx_cons, List.map_cons]
    show valV _ _ = ((r.1 :: lits rs).idxOf? l).map _
    rw [List.idxOf?_cons]
    by_cases h : r.1 = l
    · rw [valV_pos (p := (Sum.inl r.1, V.int (j : Int))) (by rw [h])]
      simp [h]
    · have hn : ¬ (Sum.inl r.1 : Key) = Sum.inl l := fun z => h (Sum.inl.inj z)
      rw [valV_neg (p := (Sum.inl r.1, V.int (j : Int))) hn, plk_val rs (j + 1) l]
      have e : (r.1 == l) = false := beq_eq_false_iff_ne.mpr h
      rw [e]
      simp only [Bool.false_eq_true, if_false, Option.map_map]
      congr 1
      funext i
      show V.int ((i + (j + 1) : Nat) : Int) = V.int ((i + 1 + j : Nat) : Int)
      congr 2
      omega
end L
namespace L
open PySem PySem.Spec PyProof.Rows L2 Z M MR
theorem plk_get (rs : List TRow) (l : Int) : valV (plk rs) (Sum.inl l) = ((lits rs).idxOf? l).map fun i : Nat => V.int (i : Int) := plk_val rs 0 l
theorem plk_some (rs : List TRow) (l : Int) : (valV (plk rs) (Sum.inl l)).isSome = decide (l ∈ lits rs) := by
  rw [plk_get, Option.isSome_map]
  by_cases h : l ∈ lits rs
  · rw [decide_eq_true h]
    cases e : (lits rs).idxOf? l with
    | some _ => rfl
    | none => exact absurd h (List.idxOf?_eq_none_iff.mp e)
  · rw [decide_eq_false h, List.idxOf?_eq_none_iff.mpr h]
    rfl
def val (rs : List TRow) (i : Int) : V := if i ∈ lits rs then .bl true else if -i ∈ lits rs then .bl false else .non
/-- where the node of a literal stands -/
def plc (rs : List TRow) (i : Int) : Option Nat := match (lits rs).idxOf? i with
  | some k => some k
  | none => (lits rs).idxOf? (-i)
def oV : Option Nat → V
  | some k => .int (k : Int)
  | none => .non
theorem plc_in {rs : List TRow} {i : Int} (h : i ∈ lits rs) : ∃ k, (lits rs).idxOf? i = some k ∧ plc rs i = some k := by
  cases e : (lits rs).idxOf? i with
  | some k => exact ⟨k, rfl, by unfold plc; rw [e]⟩
  | none => exact absurd h (List.idxOf?_eq_none_iff.mp e)
theorem plc_not {rs : List TRow} {i : Int} (h : i ∉ lits rs) : plc rs i = (lits rs).idxOf? (-i) := by
  unfold plc
  rw [List.idxOf?_eq_none_iff.mpr h]
end L
namespace L
open PySem PySem.Spec PyProof.Rows L2 Z M MR
theorem nV_len (ns : List Nat) : (nV ns).length = ns.length := List.length_map _
theorem atI_getD {xs : List V} {k : Nat} (h : k < xs.length) : atI xs (k : Int) = some (xs.getD k .non) := by
  rw [atI_nat (List.getElem?_eq_getElem h), List.getD_eq_getElem?_getD, List.getElem?_eq_getElem h]
  rfl
end L

namespace L
open PySem PySem.Spec PyProof.Rows L2 Z M MR MT X2
open _root_.SX (S S_len S_cat S_inj)
section
variable {P : Program} {w : World} {K : PySem.W.Frag} {mg : Str → Option Value} {base : Heap}
theorem w_fldT {C o dx : Addr} {f : Str} {v : V} {fs : List (Str × V)} {σ : L2.St} {H : Hp} {Q : VK} (hc : Cls K C) (hn : NoAttr K C f) (h1 : H o = some (.ins C dx fs)) (hl : fs.lookup f = some v) (q : Q v H) : tFld K (tVar 0) f (some (.ref o) :: σ) H Q :=
  Z.w_var (v := V.ref o) rfl ⟨o, C, dx, _, _, rfl, h1, hc, hn, hl, q⟩
theorem abs_nat (i : Int) : (if i < 0 then -i else i) = (i.natAbs : Int) := by split <;> omega
def spBadLit (C : Addr) : Sp := fun vs H Q E => ∃ i : Int, i.natAbs < 10 ^ 60 ∧ InitEnd C "literal" (.int i) vs H Q E
theorem ok_badlit (T : Txt K mg) : FnOk P w K mg base CX0 1 T.f_BadLiteral_init T.fd_BadLiteral_init ["self", "literal"] (spBadLit T.C_BadLiteral) := by
  refine T.F_BadLiteral_init.ok sc_BadLiteral_init (fun vs H Q E h => ?_) (fun cdv A outer s H vs Q E hr h => ?_)
  · obtain ⟨i, _, a, rfl, _⟩ := h
    rfl
  · obtain ⟨i, hi, a, rfl, ha, h⟩ := h
    refine ⟨_, (pss_cons (ps_expr (X2.pe_binit (by rfl) T.c_PaperError T.xb_PaperError (pa_cons (pv 0) (pa_cons (pe_joined (PJ.cons (MT.pe_strS (l := [116, 104, 101, 32, 108, 105, 116, 101, 114, 97, 108, 32]) (by decide +kernel)) (PJ.cons (pe_fmtR (pv 1)) (PJ.cons (MT.pe_strS (l := lit_0) (by decide +kernel)) PJ.nil)))) pa_nil))))
 (pss_one (ps_ost (pv 0) (pv 1)))), ?_⟩
    refine Z.w_start (σ' := [some (.ref a), some (.int i)]) rfl ?_
    have hl := nz_len60 hi
    refine w_seq (w_drop (w_veI ?_))
    walk_at "w"
    refine w_fmtI1 rfl hi ?_
    have h18 : lit_0.length = 18 := rfl
    refine use_j (by rw [List.nil_append, List.length_append]; simp only [List.length_cons, List.length_nil]; omega) ?_
    walk_at "w"
    refine use_veI T.xo_BadLiteral.ox ha ?_
    exact w_ost1 rfl rfl T.xo_BadLiteral.ox T.xo_BadLiteral.no ha h
theorem use_badlit {C : Addr} {i : Int} (hi : i.natAbs < 10 ^ 60) (vs : List V) (H : Hp) (Q : VK) (E : XK) (h : InitEnd C "literal" (.int i) vs H Q E) : spBadLit C vs H Q E := ⟨i, hi, h⟩
/-- a refusal -/
def Refu (C : Addr) (i : Int) (H : Hp) (E : XK) : Prop := ∀ d H', Same H H' → H' d = some (.xd [("literal", .int i)]) → E (.ref C) (some d) H'
def spRefU (CT C : Addr) : Sp := fun vs H Q E => ∃ (o : Addr) (t : TrO) (ns : List Int) (rs : List TRow) (i : Int), vs = [.ref o, .int i] ∧ TrAt CT H o t ns rs ∧ i.natAbs < 10 ^ 60 ∧ ((i.natAbs : Int) ∈ ns → Q .non H) ∧ ((i.natAbs : Int) ∉ ns → Refu C i H E)
theorem ok_refU (T : Txt K mg) : FnOk P w K mg base (L2N.CX P w) 3 T.f_Trail_refuse_unknown T.fd_Trail_refuse_unknown ["self", "literal"] (spRefU T.C_Trail T.C_BadLiteral) := by
  have G_BadLiteral_init := ok_badlit (P := P) (w := w) (base := base) T
  refine okN T.F_Trail_refuse_unknown sc_Trail_refuse_unknown (fun vs H Q E h => ?_) (fun cdv A outer s H vs Q E hr h => ?_)
  · obtain ⟨o, t, ns, rs, i, rfl, _⟩ := h
    rfl
  · obtain ⟨o, t, ns, rs, i, rfl, ht, hi, h1, h2⟩ := h
    refine ⟨_, (pss_one (ps_if (pt_cmp (pc_dnotin (hu_of hr) (pe_callB call_abs (by rfl) T.m_abs (by decide +kernel) (pa_cons (pv 1) pa_nil)) (pe_fld (pv 0) rfl))) (pss_one (L2N.ps_raise rfl (L2N.takes_of rfl rfl rfl rfl) (X2.pmkN T.xo_BadLiteral.ox T.xo_BadLiteral.ii T.xo_BadLiteral.ti G_BadLiteral_init (hr.mono (by first | decide | omega)) T.b_BadLiteral_init pass0 (by rfl) T.c_BadLiteral (pa_cons (pv 1) pa_nil)))) pss_nil)), ?_⟩
    refine Z.w_start (σ' := [some (.ref o), some (.int i)]) rfl ?_
    obtain ⟨n, ob⟩ := ht.ob
    obtain ⟨kn, hk, hv⟩ := ht.nd
    walk_at "w"
    refine w_fldT T.cl_Trail T.n_Trail__nodes ob rfl ?_
    rw [abs_nat]
    refine ⟨t.dn, _, rfl, DGet.k (k := Sum.inl (i.natAbs : Int)) hk, ?_⟩
    rw [hv]
    by_cases hm : (i.natAbs : Int) ∈ ns
    · rw [decide_eq_true hm]
      walk_at "w"
      exact h1 hm
    · rw [decide_eq_false hm]
      walk_at "w"
      refine w_mkO ?_
      walk_at "w"
      exact use_mk (use_badlit hi) fun d hd => h2 hm _ _ (same_of (Same.refl _) hd) upd_same
end
end L

namespace L
open PySem PySem.Spec PyProof.Rows L2 Z M MR MT X2
open _root_.SX (S S_len S_cat S_inj)
section
variable {P : Program} {w : World} {K : PySem.W.Frag} {mg : Str → Option Value} {base : Heap}
theorem w_tdget1 {td ty : TE} {σ : L2.St} {H : Hp} {Q : VK} (h : td σ H fun x H1 => ∃ a, x = .ref a ∧ IsD H1 a ∧ ty σ H1 fun y H2 => ∃ o, DGet H2 a y o ∧ Q (o.getD .non) H2) : tDGet1 td ty σ H Q := h
/-- a question about one literal: refused unless its node is known -/
def spAsk1 (CT C : Addr) (f : List TRow → Int → V) : Sp := fun vs H Q E => ∃ (o : Addr) (t : TrO) (ns : List Int) (rs : List TRow) (i : Int), vs = [.ref o, .int i] ∧ TrAt CT H o t ns rs ∧ i.natAbs < 10 ^ 60 ∧ rs.length ≤ 100 ∧ ((i.natAbs : Int) ∈ ns → Q (f rs i) H) ∧ ((i.natAbs : Int) ∉ ns → Refu C i H E)
theorem w_meth0 {C o dx : Addr} {m : Str} {sp : Sp} {E : XK} {t : TA} {i : Nat} {fs : List (Str × V)} {σ : L2.St} {H : Hp} {Q : VK} (h1 : H o = some (.ins C dx fs)) (hσ : σ[i]? = some (some (.ref o))) (hm : fs.lookup m = none) (q : t σ H fun vs H2 => sp (.ref o :: (vs ++ [])) H2 Q E) : tMeth C m sp [] E (tVar i) t σ H Q :=
  Z.w_var hσ ⟨o, dx, _, rfl, h1, hm, q⟩
theorem ok_value (T : Txt K mg) : FnOk P w K mg base (L2N.CX P w) 4 T.f_Trail_value T.fd_Trail_value ["self", "literal"] (spAsk1 T.C_Trail T.C_BadLiteral val) := by
  have G_Trail_refuse_unknown := ok_refU (P := P) (w := w) (base := base) T
  refine okN T.F_Trail_value sc_Trail_value (fun vs H Q E h => ?_) (fun cdv A outer s H vs Q E hr h => ?_)
  · obtain ⟨o, t, ns, rs, i, rfl, _⟩ := h
    rfl
  · obtain ⟨o, t, ns, rs, i, rfl, ht, hi, hl, h1, h2⟩ := h
    obtain ⟨n, ob⟩ := ht.ob
    refine ⟨_, (pss_cons (ps_expr (pe_meth (pv 0) T.cl_Trail T.M_Trail_refuse_unknown G_Trail_refuse_unknown (hr.mono (by first | decide | omega)) T.b_Trail_refuse_unknown .nil (L2N.passes_call (L2N.takes_of rfl rfl rfl rfl) fun _ _ _ _ h => h) (pa_cons (pv 1) pa_nil)))
 (pss_cons (ps_if (pt_cmp (pc_din (hu_of hr) (pv 1) (pe_fld (pv 0) rfl))) (pss_one (ps_ret pe_bl)) pss_nil)
 (pss_one (ps_ret (pe_ifExp (pt_cmp (pc_din (hu_of hr) (pe_un un_neg (pv 1)) (pe_fld (pv 0) rfl))) pe_bl pe_non))))), ?_⟩
    refine Z.w_start (σ' := [some (.ref o), some (.int i)]) rfl ?_
    walk_at "w"
    refine w_meth0 ob rfl (by rfl) ?_
    walk_at "w"
    refine ⟨o, t, ns, rs, i, rfl, ht, hi, fun hm => ?_, fun hm => h2 hm⟩
    have hq := h1 hm
    unfold val at hq
    walk_at "w"
    refine w_fldT T.cl_Trail T.n_Trail__places ob rfl ?_
    refine ⟨t.dp, _, rfl, DGet.k (k := Sum.inl i) ht.pl, ?_⟩
    rw [plk_some]
    by_cases e1 : i ∈ lits rs
    · rw [if_pos e1] at hq
      rw [decide_eq_true e1]
      walk_at "w"
      exact hq
    · rw [if_neg e1] at hq
      rw [decide_eq_false e1]
      walk_at "w"
      refine w_fldT T.cl_Trail T.n_Trail__places ob rfl ?_
      refine ⟨t.dp, _, rfl, DGet.k (k := Sum.inl (-i)) ht.pl, ?_⟩
      rw [plk_some]
      by_cases e2 : -i ∈ lits rs
      · rw [if_pos e2] at hq
        rw [decide_eq_true e2]
        walk_at "w"
        exact hq
      · rw [if_neg e2] at hq
        rw [decide_eq_false e2]
        walk_at "w"
        exact hq
theorem ok_place (T : Txt K mg) : FnOk P w K mg base (L2N.CX P w) 4 T.f_Trail_place_of T.fd_Trail_place_of ["self", "literal"] (spAsk1 T.C_Trail T.C_BadLiteral fun rs i => oV (plc rs i)) := by
  have G_Trail_refuse_unknown := ok_refU (P := P) (w := w) (base := base) T
  refine okN T.F_Trail_place_of sc_Trail_place_of (fun vs H Q E h => ?_) (fun cdv A outer s H vs Q E hr h => ?_)
  · obtain ⟨o, t, ns, rs, i, rfl, _⟩ := h
    rfl
  · obtain ⟨o, t, ns, rs, i, rfl, ht, hi, hl, h1, h2⟩ := h
    obtain ⟨n, ob⟩ := ht.ob
    refine ⟨_, (pss_cons (ps_expr (pe_meth (pv 0) T.cl_Trail T.M_Trail_refuse_unknown G_Trail_refuse_unknown (hr.mono (by first | decide | omega)) T.b_Trail_refuse_unknown .nil (L2N.passes_call (L2N.takes_of rfl rfl rfl rfl) fun _ _ _ _ h => h) (pa_cons (pv 1) pa_nil)))
 (pss_cons (ps_if (pt_cmp (pc_din (hu_of hr) (pv 1) (pe_fld (pv 0) rfl))) (pss_one (ps_ret (pe_dget (hu_of hr) (pe_fld (pv 0) rfl) (pv 1) (fun _ _ => rfl)))) pss_nil)
 (pss_one (ps_ret (pe_dget1 (hu_of hr) (pe_fld (pv 0) rfl) (pe_un un_neg (pv 1)) ⟨rfl, rfl, rfl, rfl⟩))))), ?_⟩
    refine Z.w_start (σ' := [some (.ref o), some (.int i)]) rfl ?_
    walk_at "w"
    refine w_meth0 ob rfl (by rfl) ?_
    walk_at "w"
    refine ⟨o, t, ns, rs, i, rfl, ht, hi, fun hm => ?_, fun hm => h2 hm⟩
    have hq : Q (oV (plc rs i)) H := h1 hm
    walk_at "w"
    refine w_fldT T.cl_Trail T.n_Trail__places ob rfl ?_
    refine ⟨t.dp, _, rfl, DGet.k (k := Sum.inl i) ht.pl, ?_⟩
    rw [plk_some]
    by_cases e1 : i ∈ lits rs
    · rw [decide_eq_true e1]
      obtain ⟨k, k1, k2⟩ := plc_in e1
      rw [k2] at hq
      walk_at "w"
      refine w_tdget ?_
      refine w_fldT T.cl_Trail T.n_Trail__places ob rfl ?_
      walk_at "w"
      refine ⟨t.dp, .int (k : Int), rfl, ?_, ?_⟩
      · have := DGet.k (k := Sum.inl i) ht.pl
        rw [plk_get, k1] at this
        exact this
      · exact hq
    · rw [decide_eq_false e1]
      rw [plc_not e1] at hq
      walk_at "w"
      refine w_tdget1 ?_
      refine w_fldT T.cl_Trail T.n_Trail__places ob rfl ?_
      refine ⟨t.dp, rfl, .inl ⟨_, .inl ht.pl⟩, ?_⟩
      walk_at "w"
      refine ⟨_, DGet.k (k := Sum.inl (-i)) ht.pl, ?_⟩
      rw [plk_get]
      cases e : (lits rs).idxOf? (-i) with
      | none =>
        rw [e] at hq
        exact hq
      | some k =>
        rw [e] at hq
        exact hq
/-- the item of a list at the place of a literal -/
def atP (f : List TRow → List V) (rs : List TRow) (i : Int) : V := match plc rs i with
  | some k => (f rs).getD k .non
  | none => .non
theorem plc_lt {rs : List TRow} {i : Int} {k : Nat} (h : plc rs i = some k) : k < rs.length := by
  have hk : ∀ j, (lits rs).idxOf? j = some k → k < rs.length := fun j e => by
    have e2 := List.idxOf?_eq_some_iff.mp e
    have := (List.findIdx?_eq_some_iff_getElem.mp e).1
    rwa [show (lits rs).length = rs.length from List.length_map _] at this
  unfold plc at h
  cases e : (lits rs).idxOf? i with
  | some j =>
    rw [e] at h
    obtain rfl := Option.some.inj h
    exact hk _ e
  | none =>
    rw [e] at h
    exact hk _ h
theorem ok_level (T : Txt K mg) : FnOk P w K mg base (L2N.CX P w) 5 T.f_Trail_level_of T.fd_Trail_level_of ["self", "literal"] (spAsk1 T.C_Trail T.C_BadLiteral (atP fun rs => nV (levs rs))) := by
  have G_Trail_place_of := ok_place (P := P) (w := w) (base := base) T
  refine okN T.F_Trail_level_of sc_Trail_level_of (fun vs H Q E h => ?_) (fun cdv A outer s H vs Q E hr h => ?_)
  · obtain ⟨o, t, ns, rs, i, rfl, _⟩ := h
    rfl
  · obtain ⟨o, t, ns, rs, i, rfl, ht, hi, hl, h1, h2⟩ := h
    obtain ⟨n, ob⟩ := ht.ob
    refine ⟨_, (pss_cons (ps_set (i := 2) sc_Trail_level_of.nd rfl (.inl rfl) (pe_meth (pv 0) T.cl_Trail T.M_Trail_place_of G_Trail_place_of (hr.mono (by first | decide | omega)) T.b_Trail_place_of .nil (L2N.passes_call (L2N.takes_of rfl rfl rfl rfl) fun _ _ _ _ h => h) (pa_cons (pv 1) pa_nil)))
 (pss_one (ps_ret (pe_ifExp (pt_cmpR op_isN (pv 2) pe_non (nomark _)) pe_non (pe_ix ix_list (pe_fld (pv 0) rfl) (pv 2) (fun _ _ => rfl)))))), ?_⟩
    refine Z.w_start (σ' := [some (.ref o), some (.int i), none]) rfl ?_
    walk_at "w"
    refine w_meth0 ob rfl (by rfl) ?_
    walk_at "w"
    refine ⟨o, t, ns, rs, i, rfl, ht, hi, hl, fun hm => ?_, fun hm => h2 hm⟩
    have hq : Q (atP (fun rs => nV (levs rs)) rs i) H := h1 hm
    unfold atP at hq
    cases e : plc rs i with
    | none =>
      rw [e] at hq
      walk_at "w"
      rw [e]
      refine Z.w_iteT rfl ?_
      walk_at "w"
      exact hq
    | some k =>
      rw [e] at hq
      have hk := plc_lt e
      walk_at "w"
      rw [e]
      refine Z.w_iteF (fun z => by cases z) ?_
      walk_at "w"
      refine w_fldT T.cl_Trail T.n_Trail__levels ob rfl ?_
      have hS : SqL K H t.lv (nV (levs rs)) := .inl (.inl ht.le)
      have ha := atI_getD (xs := nV (levs rs)) (k := k) (by rw [nV_len, levs_len]; exact hk)
      refine Z.w_var (v := V.int (k : Int)) rfl ?_
      walk_at "w"
      exact hq
theorem ok_reason (T : Txt K mg) : FnOk P w K mg base (L2N.CX P w) 5 T.f_Trail_reason_of T.fd_Trail_reason_of ["self", "literal"] (spAsk1 T.C_Trail T.C_BadLiteral (atP fun rs => rs.map fun r => rV r.2)) := by
  have G_Trail_place_of := ok_place (P := P) (w := w) (base := base) T
  refine okN T.F_Trail_reason_of sc_Trail_reason_of (fun vs H Q E h => ?_) (fun cdv A outer s H vs Q E hr h => ?_)
  · obtain ⟨o, t, ns, rs, i, rfl, _⟩ := h
    rfl
  · obtain ⟨o, t, ns, rs, i, rfl, ht, hi, hl, h1, h2⟩ := h
    obtain ⟨n, ob⟩ := ht.ob
    refine ⟨_, (pss_cons (ps_set (i := 2) sc_Trail_reason_of.nd rfl (.inl rfl) (pe_meth (pv 0) T.cl_Trail T.M_Trail_place_of G_Trail_place_of (hr.mono (by first | decide | omega)) T.b_Trail_place_of .nil (L2N.passes_call (L2N.takes_of rfl rfl rfl rfl) fun _ _ _ _ h => h) (pa_cons (pv 1) pa_nil)))
 (pss_one (ps_ret (pe_ifExp (pt_cmpR op_isN (pv 2) pe_non (nomark _)) pe_non (pe_ix ix_list (pe_fld (pv 0) rfl) (pv 2) (fun _ _ => rfl)))))), ?_⟩
    refine Z.w_start (σ' := [some (.ref o), some (.int i), none]) rfl ?_
    walk_at "w"
    refine w_meth0 ob rfl (by rfl) ?_
    walk_at "w"
    refine ⟨o, t, ns, rs, i, rfl, ht, hi, hl, fun hm => ?_, fun hm => h2 hm⟩
    have hq : Q (atP (fun rs => rs.map fun r => rV r.2) rs i) H := h1 hm
    unfold atP at hq
    cases e : plc rs i with
    | none =>
      rw [e] at hq
      walk_at "w"
      rw [e]
      refine Z.w_iteT rfl ?_
      walk_at "w"
      exact hq
    | some k =>
      rw [e] at hq
      have hk := plc_lt e
      walk_at "w"
      rw [e]
      refine Z.w_iteF (fun z => by cases z) ?_
      walk_at "w"
      refine w_fldT T.cl_Trail T.n_Trail__reasons ob rfl ?_
      have hS : SqL K H t.lr (rs.map fun r => rV r.2) := .inl (.inl ht.re)
      have ha := atI_getD (xs := rs.map fun r => rV r.2) (k := k) (by rw [List.length_map]; exact hk)
      refine Z.w_var (v := V.int (k : Int)) rfl ?_
      walk_at "w"
      exact hq
/-- the literals -/
def spLits (C : Addr) : Sp := fun vs H Q _ => ∃ (o : Addr) (t : TrO) (ns : List Int) (rs : List TRow), vs = [.ref o] ∧ TrAt C H o t ns rs ∧ ∀ p, H p = none → Q (.ref p) (upd H p (.lst ((lits rs).map V.int)))
theorem ok_literals (T : Txt K mg) : FnOk P w K mg base CX0 1 T.f_Trail_literals T.fd_Trail_literals ["self"] (spLits T.C_Trail) := by
  refine T.F_Trail_literals.ok sc_Trail_literals (fun vs H Q E h => ?_) (fun cdv A outer s H vs Q E hr h => ?_)
  · obtain ⟨o, t, ns, rs, rfl, _⟩ := h
    rfl
  · obtain ⟨o, t, ns, rs, rfl, ht, h⟩ := h
    obtain ⟨n, ob⟩ := ht.ob
    have hli := ht.li
    refine ⟨_, (pss_one (ps_ret (pe_callTy call_list_of (by rfl) T.m_list (by decide +kernel) (pa_cons (pe_fld (pv 0) rfl) pa_nil)))), ?_⟩
    refine Z.w_start (σ' := [some (.ref o)]) rfl ?_
    walk_at "w"
    refine w_fldT T.cl_Trail T.n_Trail__literals ob rfl ?_
    walk_at "w"
    exact h
def spDepth (C : Addr) : Sp := fun vs H Q _ => ∃ (o : Addr) (t : TrO) (ns : List Int) (rs : List TRow), vs = [.ref o] ∧ TrAt C H o t ns rs ∧ Q (.int (dep rs : Int)) H
def spHas (C : Addr) : Sp := fun vs H Q _ => ∃ (o : Addr) (t : TrO) (ns : List Int) (rs : List TRow) (i : Int), vs = [.ref o, .int i] ∧ TrAt C H o t ns rs ∧ Q (.bl (decide (i ∈ lits rs))) H
theorem ok_has (T : Txt K mg) : FnOk P w K mg base CX0 1 T.f_Trail_contains T.fd_Trail_contains ["self", "x"] (spHas T.C_Trail) := by
  refine T.F_Trail_contains.ok sc_Trail_contains (fun vs H Q E h => ?_) (fun cdv A outer s H vs Q E hr h => ?_)
  · obtain ⟨o, t, ns, rs, i, rfl, _⟩ := h
    rfl
  · obtain ⟨o, t, ns, rs, i, rfl, ht, h⟩ := h
    obtain ⟨n, ob⟩ := ht.ob
    refine ⟨_, (pss_one (ps_ret (pe_cmp (pc_din (hu_of hr) (pv 1) (pe_fld (pv 0) rfl))))), ?_⟩
    refine Z.w_start (σ' := [some (.ref o), some (.int i)]) rfl ?_
    walk_at "w"
    refine w_fldT T.cl_Trail T.n_Trail__places ob rfl ?_
    refine ⟨t.dp, _, rfl, DGet.k (k := Sum.inl i) ht.pl, ?_⟩
    rw [plk_some]
    exact h
/-- a literal that may be put: its node is known and open -/
def spOpen (CT C : Addr) : Sp := fun vs H Q E => ∃ (o : Addr) (t : TrO) (ns : List Int) (rs : List TRow) (i : Int), vs = [.ref o, .int i] ∧ TrAt CT H o t ns rs ∧ i.natAbs < 10 ^ 60 ∧ rs.length ≤ 100 ∧ ((i.natAbs : Int) ∈ ns ∧ val rs i = .non → Q .non H) ∧ (¬ ((i.natAbs : Int) ∈ ns ∧ val rs i = .non) → Refu C i H E)
theorem ok_open (T : Txt K mg) : FnOk P w K mg base (L2N.CX P w) 5 T.f_Trail_refuse_unless_open T.fd_Trail_refuse_unless_open ["self", "literal"] (spOpen T.C_Trail T.C_BadLiteral) := by
  have G_Trail_value := ok_value (P := P) (w := w) (base := base) T
  have G_BadLiteral_init := ok_badlit (P := P) (w := w) (base := base) T
  refine okN T.F_Trail_refuse_unless_open sc_Trail_refuse_unless_open (fun vs H Q E h => ?_) (fun cdv A outer s H vs Q E hr h => ?_)
  · obtain ⟨o, t, ns, rs, i, rfl, _⟩ := h
    rfl
  · obtain ⟨o, t, ns, rs, i, rfl, ht, hi, hl, h1, h2⟩ := h
    obtain ⟨n, ob⟩ := ht.ob
    refine ⟨_, (pss_one (ps_if (pt_cmpR op_notN (pe_meth (pv 0) T.cl_Trail T.M_Trail_value G_Trail_value (hr.mono (by first | decide | omega)) T.b_Trail_value .nil (L2N.passes_call (L2N.takes_of rfl rfl rfl rfl) fun _ _ _ _ h => h) (pa_cons (pv 1) pa_nil)) pe_non (nomark _)) (pss_one (L2N.ps_raise rfl (L2N.takes_of rfl rfl rfl rfl) (X2.pmkN T.xo_BadLiteral.ox T.xo_BadLiteral.ii T.xo_BadLiteral.ti G_BadLiteral_init (hr.mono (by first | decide | omega)) T.b_BadLiteral_init pass0 (by rfl) T.c_BadLiteral (pa_cons (pv 1) pa_nil)))) pss_nil)), ?_⟩
    refine Z.w_start (σ' := [some (.ref o), some (.int i)]) rfl ?_
    walk_at "w"
    refine w_meth0 ob rfl (by rfl) ?_
    walk_at "w"
    refine ⟨o, t, ns, rs, i, rfl, ht, hi, hl, fun hm => ?_, fun hm => h2 fun z => hm z.1⟩
    by_cases e : val rs i = .non
    · have hq := h1 ⟨hm, e⟩
      walk_at "w"
      exact hq
    · have hq := h2 fun z => e z.2
      walk_at "w"
      refine w_mkO ?_
      walk_at "w"
      exact use_mk (use_badlit hi) fun d hd => hq _ _ (same_of (Same.refl _) hd) upd_same
end
end L

namespace L
open PySem PySem.Spec PyProof.Rows L2 Z M MR MT X2
open _root_.SX (S S_len S_cat S_inj)
section
variable {P : Program} {w : World} {K : PySem.W.Frag} {mg : Str → Option Value} {base : Heap}
theorem plk_snoc (rs : List TRow) (r : TRow) : plk (rs ++ [r]) = plk rs ++ [(Sum.inl r.1, V.int (rs.length : Int))] := by
  unfold plk
  rw [List.zipIdx_append, List.map_append]
  simp
theorem plk_len (rs : List TRow) : (plk rs).length = rs.length := by
  unfold plk
  rw [List.length_map, List.length_zipIdx]
/-- all but the trail's own objects stay -/
def TrX (o : Addr) (t : TrO) (H H' : Hp) : Prop := ∀ b x, b ∉ [o, t.ll, t.lv, t.lr, t.dp, t.ls, t.lt] → H b = some x → H' b = some x
theorem TrX.refl {o : Addr} {t : TrO} (H : Hp) : TrX o t H H := fun _ _ _ e => e
theorem TrX.trans {o : Addr} {t : TrO} {H H1 H2 : Hp} (a : TrX o t H H1) (b : TrX o t H1 H2) : TrX o t H H2 := fun c x n e => b c x n (a c x n e)
theorem ne_ins {H : Hp} {o b C dx : Addr} {fs : List (Str × V)} {u : HO} (h1 : H o = some (.ins C dx fs)) (h2 : H b = some u) (h : ∀ C dx fs, u ≠ .ins C dx fs) : o ≠ b := fun e => by
  subst e
  rw [h1] at h2
  exact h _ _ _ (Option.some.inj h2).symm
theorem ne_ld {H : Hp} {a b : Addr} {xs : List V} {kvs : List (Key × V)} (h1 : H a = some (.lst xs)) (h2 : H b = some (.dK kvs)) : a ≠ b := fun e => by
  subst e
  rw [h1] at h2
  cases h2
theorem TrX.put {o : Addr} {t : TrO} {H H1 : Hp} (a : TrX o t H H1) {b : Addr} {u : HO} (hb : b ∈ [o, t.ll, t.lv, t.lr, t.dp, t.ls, t.lt]) : TrX o t H (upd H1 b u) := fun c x n e => by
  rw [upd_ne (fun z => n (by rw [z]; exact hb))]
  exact a c x n e
/-- what putting a row asks: a fresh literal, the level told by the starts that are there -/
def spPut (C : Addr) : Sp := fun vs H Q _ => ∃ (o : Addr) (t : TrO) (ns : List Int) (rs : List TRow) (i : Int) (r : Option Int) (sts : List Nat), vs = [.ref o, .int i, rV r] ∧ (∃ H0, TrAt C H0 o t ns rs ∧ H = upd H0 t.ls (.lst (nV sts))) ∧ rs.length ≤ 100 ∧ i ∉ lits rs ∧ sts = starts (rs ++ [(i, r)]) ∧
  ∀ H', TrX o t H H' → TrAt C H' o t.push ns (rs ++ [(i, r)]) → Q .non H'
theorem w_fldaug {ta tv : TE} {rd : V → V → Hp → VK → Prop} {f : Str} {D : Ends} {σ : L2.St} {H : Hp} (h : ta σ H fun x H1 => ∃ a C dx fs v, x = .ref a ∧ H1 a = some (.ins C dx fs) ∧ Cls K C ∧ NoAttr K C f ∧ fs.lookup f = some v ∧
  tv σ H1 fun y H2 => rd v y H2 fun z H3 => ∃ dx' fs', H3 a = some (.ins C dx' fs') ∧ fs'.length < 1000 ∧ D.nx σ (upd H3 a (.ins C dx' (putF f z fs')))) : sFldAug K ta tv rd f D σ H := h
theorem lst_eq {H : Hp} {a : Addr} {xs ys : List V} (h : H a = some (.lst xs)) (e : xs = ys) : H a = some (.lst ys) := e ▸ h
theorem dK_eq {H : Hp} {a : Addr} {xs ys : List (Key × V)} (h : H a = some (.dK xs)) (e : xs = ys) : H a = some (.dK ys) := e ▸ h
theorem ok_put (T : Txt K mg) : FnOk P w K mg base CX0 1 T.f_Trail_put T.fd_Trail_put ["self", "literal", "reason"] (spPut T.C_Trail) := by
  refine T.F_Trail_put.ok sc_Trail_put (fun vs H Q E h => ?_) (fun cdv A outer s H vs Q E hr h => ?_)
  · obtain ⟨o, t, ns, rs, i, r, sts, rfl, _⟩ := h
    rfl
  · obtain ⟨o, t, ns, rs, i, r, sts, rfl, ⟨H0, ht, rfl⟩, hl, hn, hs, h⟩ := h
    have ob := ht.obj
    obtain ⟨kn, hk, hkv⟩ := ht.nd
    obtain ⟨hts, htl, hasc, hnx⟩ := ht.tic
    have hli := ht.li
    have hle := ht.le
    have hre := ht.re
    have hpl := ht.pl
    have hst := ht.st
    obtain ⟨hdf, hdd⟩ := ht.df
    simp only [List.nodup_cons, List.mem_cons, List.not_mem_nil, or_false, not_or, not_false_eq_true, List.nodup_nil, and_true] at hdf
    obtain ⟨⟨a1, a2, a3, a4⟩, ⟨a5, a6, a7⟩, ⟨a8, a9⟩, a10⟩ := hdf
    have b1 := ne_ins ob hli (fun _ _ _ e => by cases e)
    have b2 := ne_ins ob hle (fun _ _ _ e => by cases e)
    have b3 := ne_ins ob hre (fun _ _ _ e => by cases e)
    have b4 := ne_ins ob hst (fun _ _ _ e => by cases e)
    have b5 := ne_ins ob hts (fun _ _ _ e => by cases e)
    have b6 := ne_ins ob hpl (fun _ _ _ e => by cases e)
    have b7 := ne_ins ob hk (fun _ _ _ e => by cases e)
    have c1 := ne_ld hli hpl
    have c2 := ne_ld hle hpl
    have c3 := ne_ld hre hpl
    have c4 := ne_ld hst hpl
    have c5 := ne_ld hts hpl
    have e1 := ne_ld hli hk
    have e2 := ne_ld hle hk
    have e3 := ne_ld hre hk
    have e4 := ne_ld hst hk
    have e5 := ne_ld hts hk
    refine ⟨_, (pss_cons (ps_dput (hu_of hr) (pe_fld (pv 0) rfl) (pv 1) (pe_callB call_len_seq (by rfl) T.m_len (by decide +kernel) (pa_cons (pe_fld (pv 0) rfl) pa_nil)) rfl)
 (pss_cons (ps_expr (pe_bm PySem.F.plainAttrs_list PySem.F.slot_list_append PySem.F.type_list_append mt_append (pe_fld (pv 0) rfl) (pa_cons (pv 1) pa_nil)))
 (pss_cons (ps_expr (pe_bm PySem.F.plainAttrs_list PySem.F.slot_list_append PySem.F.type_list_append mt_append (pe_fld (pv 0) rfl) (pa_cons (pe_callB call_len_seq (by rfl) T.m_len (by decide +kernel) (pa_cons (pe_fld (pv 0) rfl) pa_nil)) pa_nil)))
 (pss_cons (ps_expr (pe_bm PySem.F.plainAttrs_list PySem.F.slot_list_append PySem.F.type_list_append mt_append (pe_fld (pv 0) rfl) (pa_cons (pv 2) pa_nil)))
 (pss_cons (ps_expr (pe_bm PySem.F.plainAttrs_list PySem.F.slot_list_append PySem.F.type_list_append mt_append (pe_fld (pv 0) rfl) (pa_cons (pe_fld (pv 0) rfl) pa_nil)))
 (pss_one (ps_fldaug (pv 0) pe_int in_add))))))), ?_⟩
    refine Z.w_start (σ' := [some (.ref o), some (.int i), some (rV r)]) rfl ?_
    walk_at "w"
    refine w_fldT T.cl_Trail T.n_Trail__literals (fs := t.fs t.nx) (dx := t.dx) (by walk_at "hp") rfl ?_
    walk_at "w"
    refine w_fldT T.cl_Trail T.n_Trail__places (fs := t.fs t.nx) (dx := t.dx) (by walk_at "hp") rfl ?_
    walk_at "w"
    refine ⟨t.dp, _, rfl, DPut.k (k := Sum.inl i) (by walk_at "hp") (by rw [plk_len]; exact Nat.lt_of_le_of_lt hl (by decide)), ?_⟩
    walk_at "w"
    refine Z.w_bm ?_
    refine w_fldT T.cl_Trail T.n_Trail__literals (fs := t.fs t.nx) (dx := t.dx) (by walk_at "hp") rfl ?_
    refine ⟨.inl ⟨rfl, _, .inl (.inl (by walk_at "hp"))⟩, ?_⟩
    walk_at "w"
    refine ⟨t.ll, _, _, rfl, rfl, by walk_at "hp", ?_, ?_⟩
    · rw [List.length_map, show (lits rs).length = rs.length from List.length_map _]
      exact Nat.lt_of_le_of_lt hl (by decide)
    walk_at "w"
    refine Z.w_bm ?_
    refine w_fldT T.cl_Trail T.n_Trail__levels (fs := t.fs t.nx) (dx := t.dx) (by walk_at "hp") rfl ?_
    refine ⟨.inl ⟨rfl, _, .inl (.inl (by walk_at "hp"))⟩, ?_⟩
    walk_at "w"
    refine w_fldT T.cl_Trail T.n_Trail__starts (fs := t.fs t.nx) (dx := t.dx) (by walk_at "hp") rfl ?_
    walk_at "w"
    refine ⟨t.lv, _, _, rfl, rfl, by walk_at "hp", ?_, ?_⟩
    · rw [nV_len, levs_len]
      exact Nat.lt_of_le_of_lt hl (by decide)
    walk_at "w"
    refine Z.w_bm ?_
    refine w_fldT T.cl_Trail T.n_Trail__reasons (fs := t.fs t.nx) (dx := t.dx) (by walk_at "hp") rfl ?_
    refine ⟨.inl ⟨rfl, _, .inl (.inl (by walk_at "hp"))⟩, ?_⟩
    walk_at "w"
    refine ⟨t.lr, _, _, rfl, rfl, by walk_at "hp", ?_, ?_⟩
    · rw [List.length_map]
      exact Nat.lt_of_le_of_lt hl (by decide)
    walk_at "w"
    refine Z.w_bm ?_
    refine w_fldT T.cl_Trail T.n_Trail__tickets (fs := t.fs t.nx) (dx := t.dx) (by walk_at "hp") rfl ?_
    refine ⟨.inl ⟨rfl, _, .inl (.inl (by walk_at "hp"))⟩, ?_⟩
    walk_at "w"
    refine w_fldT T.cl_Trail T.n_Trail__next_ticket (fs := t.fs t.nx) (dx := t.dx) (by walk_at "hp") rfl ?_
    walk_at "w"
    refine ⟨t.lt, _, _, rfl, rfl, by walk_at "hp", ?_, ?_⟩
    · rw [nV_len, htl]
      exact Nat.lt_of_le_of_lt hl (by decide)
    walk_at "w"
    dsimp only
    refine w_fldaug ?_
    refine Z.w_var (v := V.ref o) rfl ⟨o, T.C_Trail, t.dx, t.fs t.nx, .int t.nx, rfl, by walk_at "hp", T.cl_Trail, T.n_Trail__next_ticket, rfl, ?_⟩
    walk_at "w"
    refine ⟨t.nx, 1, rfl, rfl, t.dx, t.fs t.nx, by walk_at "hp", (show 8 < 1000 by decide), ?_⟩
    have hnone : valV (plk rs) (Sum.inl i) = none := by
      rw [plk_get, List.idxOf?_eq_none_iff.mpr hn]
      rfl
    refine h _ ((((((TrX.refl _).put (b := t.dp) (by simp)).put (b := t.ll) (by simp)).put (b := t.lv) (by simp)).put (b := t.lr) (by simp)).put (b := t.lt) (by simp) |>.put (b := o) (by simp)) ?_
    refine ⟨upd_same, ⟨kn, by walk_at "hp", hkv⟩, lst_eq (by walk_at "hp") ?_, lst_eq (by walk_at "hp") ?_, lst_eq (by walk_at "hp") ?_, dK_eq (by walk_at "hp") ?_, lst_eq (by walk_at "hp") ?_, ⟨lst_eq (by walk_at "hp") ?_, ?_, ?_, ?_⟩, ht.df⟩
    · unfold lits
      rw [List.map_append, List.map_append]
      rfl
    · rw [nV_len, hs, starts_len, levs_snoc]
      unfold nV
      rw [List.map_append]
      rfl
    · rw [List.map_append]
      rfl
    · rw [putK_new _ hnone, plk_snoc, List.length_map, show (lits rs).length = rs.length from List.length_map _]
    · rw [hs]
    · show _ = nV (t.tk ++ [t.nx])
      unfold nV
      rw [List.map_append]
      rfl
    · show (t.tk ++ [t.nx]).length = _
      rw [List.length_append, List.length_append, htl]
      rfl
    · show (t.tk ++ [t.nx]).Pairwise _
      rw [List.pairwise_append]
      exact ⟨hasc, List.pairwise_singleton _ _, fun a ha b hb => by rw [List.mem_singleton.mp hb]; exact hnx a ha⟩
    · intro x hx
      rcases List.mem_append.mp (show x ∈ t.tk ++ [t.nx] from hx) with hx | hx
      · exact Nat.lt_succ_of_lt (hnx x hx)
      · rw [List.mem_singleton.mp hx]
        exact Nat.lt_succ_self _
end
end L

namespace L
open PySem PySem.Spec PyProof.Rows L2 Z M MR MT X2
open _root_.SX (S S_len S_cat S_inj)
section
variable {P : Program} {w : World} {K : PySem.W.Frag} {mg : Str → Option Value} {base : Heap}
theorem upd_self {H : Hp} {a : Addr} {o : HO} (h : H a = some o) : upd H a o = H := by
  funext b
  by_cases e : b = a
  · rw [e, upd_same, h]
  · rw [upd_ne e]
theorem val_non {rs : List TRow} {i : Int} (h : val rs i = .non) : i ∉ lits rs ∧ -i ∉ lits rs := by
  unfold val at h
  by_cases e1 : i ∈ lits rs
  · rw [if_pos e1] at h
    cases h
  · rw [if_neg e1] at h
    by_cases e2 : -i ∈ lits rs
    · rw [if_pos e2] at h
      cases h
    · exact ⟨e1, e2⟩
/-- a literal put by force (r some) or by choice -/
def spDo (CT C : Addr) (ch : Bool) : Sp := fun vs H Q E => ∃ (o : Addr) (t : TrO) (ns : List Int) (rs : List TRow) (i k : Int), vs = (if ch then [.ref o, .int i] else [.ref o, .int i, .int k]) ∧ TrAt CT H o t ns rs ∧ i.natAbs < 10 ^ 60 ∧ rs.length ≤ 99 ∧
  ((i.natAbs : Int) ∈ ns ∧ val rs i = .non → ∀ H', TrX o t H H' → TrAt CT H' o t.push ns (rs ++ [(i, if ch then none else some k)]) → Q .non H') ∧ (¬ ((i.natAbs : Int) ∈ ns ∧ val rs i = .non) → Refu C i H E)
theorem ok_force (T : Txt K mg) : FnOk P w K mg base (L2N.CX P w) 6 T.f_Trail_force T.fd_Trail_force ["self", "literal", "reason"] (spDo T.C_Trail T.C_BadLiteral false) := by
  have G_Trail_refuse_unless_open := ok_open (P := P) (w := w) (base := base) T
  have G_Trail_put := ok_put (P := P) (w := w) (base := base) T
  refine okN T.F_Trail_force sc_Trail_force (fun vs H Q E h => ?_) (fun cdv A outer s H vs Q E hr h => ?_)
  · obtain ⟨o, t, ns, rs, i, k, rfl, _⟩ := h
    rfl
  · obtain ⟨o, t, ns, rs, i, k, rfl, ht, hi, hl, h1, h2⟩ := h
    obtain ⟨n, ob⟩ := ht.ob
    refine ⟨_, (pss_cons (ps_expr (pe_meth (pv 0) T.cl_Trail T.M_Trail_refuse_unless_open G_Trail_refuse_unless_open (hr.mono (by first | decide | omega)) T.b_Trail_refuse_unless_open .nil (L2N.passes_call (L2N.takes_of rfl rfl rfl rfl) fun _ _ _ _ h => h) (pa_cons (pv 1) pa_nil)))
 (pss_one (ps_expr (pe_meth (pv 0) T.cl_Trail T.M_Trail_put G_Trail_put (hr.mono (by first | decide | omega)) T.b_Trail_put .nil pass0 (pa_cons (pv 1) (pa_cons (pv 2) pa_nil)))))), ?_⟩
    refine Z.w_start (σ' := [some (.ref o), some (.int i), some (.int k)]) rfl ?_
    walk_at "w"
    refine w_meth0 ob rfl (by rfl) ?_
    walk_at "w"
    refine ⟨o, t, ns, rs, i, rfl, ht, hi, by omega, fun hm => ?_, fun hm => h2 hm⟩
    have hq := h1 hm
    walk_at "w"
    refine w_meth0 ob rfl (by rfl) ?_
    walk_at "w"
    refine ⟨o, t, ns, rs, i, some k, starts rs, rfl, ⟨H, ht, (upd_self ht.st).symm⟩, by omega, (val_non hm.2).1, ?_, fun H' x a => ?_⟩
    · rw [starts_snoc]
      simp
    · walk_at "w"
      exact hq _ x a
theorem ok_choose (T : Txt K mg) : FnOk P w K mg base (L2N.CX P w) 6 T.f_Trail_choose T.fd_Trail_choose ["self", "literal"] (spDo T.C_Trail T.C_BadLiteral true) := by
  have G_Trail_refuse_unless_open := ok_open (P := P) (w := w) (base := base) T
  have G_Trail_put := ok_put (P := P) (w := w) (base := base) T
  refine okN T.F_Trail_choose sc_Trail_choose (fun vs H Q E h => ?_) (fun cdv A outer s H vs Q E hr h => ?_)
  · obtain ⟨o, t, ns, rs, i, k, rfl, _⟩ := h
    rfl
  · obtain ⟨o, t, ns, rs, i, k, rfl, ht, hi, hl, h1, h2⟩ := h
    obtain ⟨n, ob⟩ := ht.ob
    have hli := ht.li
    have hst := ht.st
    have b4 := ne_ins ob hst (fun _ _ _ e => by cases e)
    refine ⟨_, (pss_cons (ps_expr (pe_meth (pv 0) T.cl_Trail T.M_Trail_refuse_unless_open G_Trail_refuse_unless_open (hr.mono (by first | decide | omega)) T.b_Trail_refuse_unless_open .nil (L2N.passes_call (L2N.takes_of rfl rfl rfl rfl) fun _ _ _ _ h => h) (pa_cons (pv 1) pa_nil)))
 (pss_cons (ps_expr (pe_bm PySem.F.plainAttrs_list PySem.F.slot_list_append PySem.F.type_list_append mt_append (pe_fld (pv 0) rfl) (pa_cons (pe_callB call_len_seq (by rfl) T.m_len (by decide +kernel) (pa_cons (pe_fld (pv 0) rfl) pa_nil)) pa_nil)))
 (pss_one (ps_expr (pe_meth (pv 0) T.cl_Trail T.M_Trail_put G_Trail_put (hr.mono (by first | decide | omega)) T.b_Trail_put .nil pass0 (pa_cons (pv 1) (pa_cons pe_non pa_nil))))))), ?_⟩
    refine Z.w_start (σ' := [some (.ref o), some (.int i)]) rfl ?_
    walk_at "w"
    refine w_meth0 ob rfl (by rfl) ?_
    walk_at "w"
    refine ⟨o, t, ns, rs, i, rfl, ht, hi, by omega, fun hm => ?_, fun hm => h2 hm⟩
    have hq := h1 hm
    walk_at "w"
    refine Z.w_bm ?_
    refine w_fldT T.cl_Trail T.n_Trail__starts ob rfl ?_
    refine ⟨.inl ⟨rfl, _, .inl (.inl hst)⟩, ?_⟩
    walk_at "w"
    refine w_fldT T.cl_Trail T.n_Trail__literals ob rfl ?_
    walk_at "w"
    refine ⟨t.ls, _, _, rfl, rfl, hst, ?_, ?_⟩
    · rw [nV_len, starts_len]
      exact Nat.lt_of_le_of_lt (Nat.le_trans (List.countP_le_length) hl) (by decide)
    walk_at "w"
    refine w_meth0 (dx := t.dx) (fs := t.fs n) (by walk_at "hp") rfl (by rfl) ?_
    walk_at "w"
    refine ⟨o, t, ns, rs, i, none, starts rs ++ [rs.length], rfl, ⟨H, ht, ?_⟩, by omega, (val_non hm.2).1, ?_, fun H' x a => ?_⟩
    · unfold nV lits
      rw [List.map_append, List.length_map, List.length_map]
      rfl
    · rw [starts_snoc]
      rfl
    · walk_at "w"
      exact hq _ (((TrX.refl H).put (b := t.ls) (by simp)).trans x) a
end
end L

namespace L
open PySem PySem.Spec PyProof.Rows L2 Z M MR MT X2
open _root_.SX (S S_len S_cat S_inj)
section
variable {P : Program} {w : World} {K : PySem.W.Frag} {mg : Str → Option Value} {base : Heap}
/-- the sizes of the levels -/
def sizesV (rs : List TRow) : List V := (List.range (dep rs + 1)).map fun k => V.int ((ed rs (k + 1) : Int) - (ed rs k : Int))
def edges (rs : List TRow) : List Nat := [0] ++ (starts rs ++ [rs.length])
theorem edges_at (rs : List TRow) (k : Nat) (h : k ≤ dep rs + 1) : (edges rs)[k]? = some (ed rs k) := by
  cases k with
  | zero => rfl
  | succ k =>
    show (starts rs ++ [rs.length])[k]? = some (ed rs (k + 1))
    by_cases e : k < dep rs
    · obtain ⟨s, h1, h2, _⟩ := ed_lt e
      rw [List.getElem?_append_left (by rw [starts_len]; exact e), h1, h2]
    · rw [List.getElem?_append_right (by rw [starts_len]; omega), starts_len, ed_ge (by omega), show k - dep rs = 0 by omega]
      rfl
theorem w_star {te : TE} {ta : TA} {σ : L2.St} {H : Hp} {Q : List V → Hp → Prop} (h : te σ H fun x H1 => ∃ p xs, x = V.ref p ∧ (SqT K H1 p xs ∨ SqL K H1 p xs) ∧ ta σ H1 fun ys H2 => Q (xs ++ ys) H2) : StX.tStar K te ta σ H Q := h
theorem nV_app (a b : List Nat) : nV (a ++ b) = nV a ++ nV b := List.map_append
theorem edges_len (rs : List TRow) : (edges rs).length = dep rs + 2 := by
  unfold edges
  rw [List.length_append, List.length_append, starts_len]
  simp
  omega
def spSizes (C : Addr) : Sp := fun vs H Q _ => ∃ (o : Addr) (t : TrO) (ns : List Int) (rs : List TRow), vs = [.ref o] ∧ TrAt C H o t ns rs ∧ rs.length ≤ 100 ∧ ∀ p H', Same H H' → H p = none → H' p = some (.lst (sizesV rs)) → Q (.ref p) H'
theorem fresh_of1 {H H' : Hp} {p : Addr} (s : Same H H') (h : H' p = none) : H p = none := by
  cases e : H p with
  | none => rfl
  | some o => rw [s _ _ e] at h; cases h
theorem ok_sizes (T : Txt K mg) : FnOk P w K mg base CX0 1 T.f_Trail_sizes T.fd_Trail_sizes ["self"] (spSizes T.C_Trail) := by
  refine T.F_Trail_sizes.ok sc_Trail_sizes (fun vs H Q E h => ?_) (fun cdv A outer s H vs Q E hr h => ?_)
  · obtain ⟨o, t, ns, rs, rfl, _⟩ := h
    rfl
  · obtain ⟨o, t, ns, rs, rfl, ht, hl, h⟩ := h
    obtain ⟨n, ob⟩ := ht.ob
    have hst := ht.st
    have hli := ht.li
    have hdl : dep rs ≤ 100 := Nat.le_trans List.countP_le_length hl
    have ee : (V.int 0 :: (nV (starts rs) ++ [V.int (((lits rs).map V.int).length : Int)])) = nV (edges rs) := by
      unfold edges
      rw [nV_app, nV_app, List.length_map, show (lits rs).length = rs.length from List.length_map _]
      rfl
    have el : (nV (edges rs)).length = dep rs + 2 := by rw [nV_len, edges_len]
    refine ⟨_, (pss_cons (ps_set (i := 1) sc_Trail_sizes.nd rfl (.inr rfl) (pe_lst (pa_cons pe_int (StX.pa_star (pe_fld (pv 0) rfl) (pa_cons (pe_callB call_len_seq (by rfl) T.m_len (by decide +kernel) (pa_cons (pe_fld (pv 0) rfl) pa_nil)) pa_nil)))))
 (pss_one (ps_ret (pe_lc (own := [("k", 2)]) (g := gName 2) (tt := tYes) (by rfl) sc_Trail_sizes.nd (pi_range1 (by rfl) T.m_range (pa_cons (pe_op op_sub (pe_callB call_len_seq (by rfl) T.m_len (by decide +kernel) (pa_cons (pv 1) pa_nil)) pe_int) pa_nil)) (blkOk_by (own := [("k", 2)]) (N := N_Trail_sizes) (sc := defScope s_Trail_sizes) (by decide +kernel)) (fun _ _ _ _ _ => pg_name (i := 2) sc_Trail_sizes.nd rfl (Or.inl rfl)) (fun _ _ _ _ _ => pts_nil) (fun _ _ _ _ _ => (pe_op op_sub (pe_ix (show IxR _ (rIxL K) from ix_list) (pv 1) (pe_op op_add (pv 2) pe_int) (fun _ _ => rfl)) (pe_ix (show IxR _ (rIxL K) from ix_list) (pv 1) (pv 2) (fun _ _ => rfl)))))))), ?_⟩
    refine Z.w_start (σ' := [some (.ref o), none, none]) rfl ?_
    walk_at "w"
    refine w_star ?_
    refine w_fldT T.cl_Trail T.n_Trail__starts ob rfl ?_
    refine ⟨t.ls, nV (starts rs), rfl, .inr (.inl (.inl hst)), ?_⟩
    walk_at "w"
    refine w_fldT T.cl_Trail T.n_Trail__literals ob rfl ?_
    refine ⟨t.ll, (lits rs).map V.int, rfl, .inl (.inl (.inl hli)), ?_⟩
    refine (?_ : (V.int 0 :: (nV (starts rs) ++ [V.int (((lits rs).map V.int).length : Int)])).length ≤ sizeLine ∧ _)
    rw [ee]
    refine ⟨by rw [el]; exact Nat.le_trans (show dep rs + 2 ≤ 200 by omega) (by decide), ?_⟩
    intro e fe
    have s1 := same_of (Same.refl H) fe (o := .lst (nV (edges rs)))
    walk_at "w"
    refine ⟨by omega, by omega, fun D hD => ?_⟩
    have en : ((nV (edges rs)).length - 1 : Int).toNat = dep rs + 1 := by omega
    rw [en]
    have nDe : e ≠ D := fun z => by subst z; rw [upd_same] at hD; cases hD
    refine lc_range (lo := 0) (n := dep rs + 1) (fun j H5 => Same (upd H e (.lst (nV (edges rs)))) H5 ∧ j ≤ dep rs + 1 ∧ H5 D = some (.lst ((sizesV rs).take j))) ?_ ?_ ?_
    · exact ⟨same_of (Same.refl _) hD, Nat.zero_le _, upd_same⟩
    · rintro j H5 hj ⟨s5, hjl, e5⟩
      have hSe : SqL K H5 e (nV (edges rs)) := .inl (.inl (s5 _ _ upd_same))
      have k1 : atI (nV (edges rs)) (0 + (j : Int)) = some (.int (ed rs j : Int)) := by
        rw [Int.zero_add]
        refine atI_nat ?_
        unfold nV
        rw [List.getElem?_map, edges_at rs j (by omega)]
        rfl
      have k2 : atI (nV (edges rs)) (0 + (j : Int) + 1) = some (.int (ed rs (j + 1) : Int)) := by
        rw [Int.zero_add, show (j : Int) + 1 = ((j + 1 : Nat) : Int) from rfl]
        refine atI_nat ?_
        unfold nV
        rw [List.getElem?_map, edges_at rs (j + 1) (by omega)]
        rfl
      refine Z.w_gname (σ' := [some (.ref o), some (.ref e), some (.int (0 + (j : Int)))]) rfl ⟨rfl, ?_⟩
      walk_at "w"
      refine ⟨_, e5, ?_, same_mut s5 hD, hj, ?_⟩
      · rw [List.length_take]
        exact Nat.lt_of_le_of_lt (Nat.min_le_left _ _) (Nat.lt_trans (show j < 200 by omega) (by decide))
      · rw [upd_same, List.take_add_one]
        unfold sizesV
        rw [List.getElem?_map, List.getElem?_range hj]
        rfl
    · rintro H5 ⟨s5, _, e5⟩
      rw [List.take_of_length_le (by unfold sizesV; rw [List.length_map, List.length_range]; exact Nat.le_refl _)] at e5
      walk_at "w"
      exact h _ _ (s1.trans s5) (fresh_of1 s1 hD) e5
end
end L

local macro_rules | `(tactic| walk_at "cond") => `(tactic| first | assumption | fail "cond")
local macro_rules | `(tactic| walk_at "pl") => `(tactic| first | assumption | exact L.PX.refl' (by assumption) | exact L.PoolAt.same (by assumption) (Z.same_of (L2.Same.refl _) (by assumption)) | fail "pl")
local macro_rules | `(tactic| walk_at "w1") => `(tactic| first
  | ((with_reducible refine' Z.w_ixT ?wh ?wa ?_); (case wh => walk_at "seq"); (case wa => exact rfl))
  | ((with_reducible refine' Z.w_gtup ?wh ?wa ?_); (case wh => walk_at "seq"); (case wa => exact rfl))
  | ((with_reducible refine' L.use_takeP ?wh ?wa ?wb (fun r H1 p1 h0 h1 => ?_)); (case wh => walk_at "pl"); (case wa => omega); (case wb => omega))
  | with_reducible refine L.use_whole ?_
  | with_reducible refine L.w_slice ?_
  | with_reducible refine L.w_nopart ?_
  | with_reducible refine L.w_part ?_
  | fail "w1")

namespace L
open PySem PySem.Spec PyProof.Rows L2 Z M MR MT X2
open _root_.SX (S S_len S_cat S_inj)
section
variable {P : Program} {w : World} {K : PySem.W.Frag} {mg : Str → Option Value} {base : Heap}
theorem dropK_mid {a b : List (Key × V)} {k : Key} {v : V} (ha : ∀ p ∈ a, p.1 ≠ k) (hb : ∀ p ∈ b, p.1 ≠ k) : dropK (a ++ (k, v) :: b) k = a ++ b := by
  unfold dropK
  rw [List.filter_append, List.filter_cons, if_neg (by simp), List.filter_eq_self.mpr fun p hp => decide_eq_true (ha p hp), List.filter_eq_self.mpr fun p hp => decide_eq_true (hb p hp)]
/-- the places when i of the rows from s on are gone -/
def plkB (rs : List TRow) (s i : Nat) : List (Key × V) := (plk rs).take s ++ (plk rs).drop (s + i)
theorem plk_take (rs : List TRow) (n : Nat) : (plk rs).take n = plk (rs.take n) := by
  unfold plk
  rw [← List.map_take]
  congr 1
  refine List.ext_getElem? fun i => ?_
  rw [List.getElem?_take, List.getElem?_zipIdx, List.getElem?_zipIdx, List.getElem?_take]
  split <;> rfl
theorem plk_at {rs : List TRow} {i : Nat} {r : TRow} (h : rs[i]? = some r) : (plk rs)[i]? = some (Sum.inl r.1, V.int (i : Int)) := by
  unfold plk
  rw [List.getElem?_map, List.getElem?_zipIdx, h]
  simp
theorem plk_keys (rs : List TRow) : (plk rs).map (·.1) = (lits rs).map Sum.inl := by
  refine List.ext_getElem? fun i => ?_
  unfold lits
  rw [List.getElem?_map, List.map_map, List.getElem?_map]
  cases h : rs[i]? with
  | none => rw [List.getElem?_eq_none (by rw [plk_len]; exact List.getElem?_eq_none_iff.mp h)]; rfl
  | some r => rw [plk_at h]; rfl
theorem plkB_step {rs : List TRow} {s i : Nat} {r : TRow} (hn : (lits rs).Nodup) (h : rs[s + i]? = some r) : dropK (plkB rs s i) (Sum.inl r.1) = plkB rs s (i + 1) := by
  have hi := (List.getElem?_eq_some_iff.mp h).1
  have hi2 : s + i < (plk rs).length := by rw [plk_len]; exact hi
  have nd : ((plk rs).map (·.1)).Nodup := by
    rw [plk_keys]
    exact List.Pairwise.map _ (fun a b h z => h (Sum.inl.inj z)) hn
  have e : (plk rs).drop (s + i) = (Sum.inl r.1, V.int ((s + i : Nat) : Int)) :: (plk rs).drop (s + (i + 1)) := by
    have e2 : (plk rs)[s + i] = (Sum.inl r.1, V.int ((s + i : Nat) : Int)) := Option.some.inj ((List.getElem?_eq_getElem hi2).symm.trans (plk_at h))
    rw [List.drop_eq_getElem_cons hi2, e2]
    rfl
  have key : ∀ j p, (plk rs)[j]? = some p → j ≠ s + i → p.1 ≠ Sum.inl r.1 := by
    intro j p hj hne ek
    have hj1 : ((plk rs).map (·.1))[j]? = some (Sum.inl r.1) := by rw [List.getElem?_map, hj]; exact congrArg some ek
    have hj2 : ((plk rs).map (·.1))[s + i]? = some (Sum.inl r.1) := by rw [List.getElem?_map, plk_at h]; rfl
    exact hne ((List.getElem?_inj (by rw [List.length_map]; exact (List.getElem?_eq_some_iff.mp hj).1) nd).mp (hj1.trans hj2.symm))
  unfold plkB
  rw [e]
  refine dropK_mid (fun p hp => ?_) (fun p hp => ?_)
  · obtain ⟨j, hj⟩ := List.mem_iff_getElem?.mp hp
    rw [List.getElem?_take] at hj
    split at hj
    · exact key j p hj (by omega)
    · cases hj
  · obtain ⟨j, hj⟩ := List.mem_iff_getElem?.mp hp
    rw [List.getElem?_drop] at hj
    exact key _ p hj (by omega)
theorem plkB_some {rs : List TRow} {s i : Nat} {r : TRow} (h : rs[s + i]? = some r) : (valV (plkB rs s i) (Sum.inl r.1)).isSome = true := by
  have hi := (List.getElem?_eq_some_iff.mp h).1
  rw [← valV_any, List.any_eq_true]
  refine ⟨(Sum.inl r.1, V.int ((s + i : Nat) : Int)), ?_, decide_eq_true rfl⟩
  unfold plkB
  refine List.mem_append_right _ (List.mem_iff_getElem?.mpr ⟨0, ?_⟩)
  rw [List.getElem?_drop, Nat.add_zero]
  exact plk_at h
theorem cut_from {xs : List V} {s : Nat} (h : s ≤ xs.length) : cutV xs (some (s : Int)) none = xs.drop s := by
  unfold cutV
  rw [HT.sIx_nat, HT.sIx_none, Nat.min_eq_left h, List.take_of_length_le (by rw [List.length_drop]; exact Nat.le_refl _)]
theorem cut_to {xs : List V} {s : Nat} (h : s ≤ xs.length) : cutV xs none (some (s : Int)) = xs.take s := by
  unfold cutV
  rw [HT.sIx_nat, HT.sIx_none, Nat.min_eq_left h, List.drop_zero, Nat.sub_zero]
theorem w_slice {r : V → Option Int → Option Int → Hp → VK → Prop} {te : TE} {tl th : TO} {σ : L2.St} {H : Hp} {Q : VK} (h : te σ H fun x H1 => tl σ H1 fun l H2 => th σ H2 fun u H3 => r x l u H3 Q) : L2.tSl r te tl th σ H Q := h
theorem w_nopart {σ : L2.St} {H : Hp} {R : Option Int → Hp → Prop} (h : R none H) : tNoPart σ H R := h
theorem w_part {t : TE} {σ : L2.St} {H : Hp} {R : Option Int → Hp → Prop} (h : t σ H fun x H1 => ∃ i, x = .int i ∧ R (some i) H1) : tPart t σ H R := h
theorem w_slFrom {a : Addr} {xs : List V} {s : Nat} {H : Hp} {Q : VK} (h : SqL K H a xs) (hs : s ≤ xs.length) (q : ∀ p, H p = none → Q (.ref p) (upd H p (.lst (xs.drop s)))) : rSlL K (.ref a) (some (s : Int)) none H Q :=
  ⟨a, xs, rfl, h, fun p hp => by rw [cut_from hs]; exact q p hp⟩
theorem w_slTo {a : Addr} {xs : List V} {s : Nat} {H : Hp} {Q : VK} (h : SqL K H a xs) (hs : s ≤ xs.length) (q : ∀ p, H p = none → Q (.ref p) (upd H p (.lst (xs.take s)))) : rSlL K (.ref a) none (some (s : Int)) H Q :=
  ⟨a, xs, rfl, h, fun p hp => by rw [cut_to hs]; exact q p hp⟩
theorem w_ddel {td ty : TE} {D : Ends} {σ : L2.St} {H : Hp} (h : td σ H fun x H1 => ty σ H1 fun y H2 => ∃ a kvs k, x = .ref a ∧ H2 a = some (.dK kvs) ∧ y = kV k ∧ (valV kvs k).isSome = true ∧ D.nx σ (upd H2 a (.dK (dropK kvs k)))) : sDDel td ty D σ H := h
theorem w_dels {ts : List (TE × TE)} {D : Ends} {σ : L2.St} {H : Hp} (h : OWN.tDels ts σ H fun H' => D.nx σ H') : OWN.sDels ts D σ H := h
theorem w_del1 {to tl : TE} {r : List (TE × TE)} {σ : L2.St} {H : Hp} {Q : Hp → Prop} (h : to σ H fun x H1 => tl σ H1 fun y H2 => ∃ (l : Addr) (xs : List V) (i : Int), x = .ref l ∧ y = .int i ∧ H2 l = some (.lst xs) ∧ 0 ≤ i ∧ i ≤ xs.length ∧ OWN.tDels r σ (upd H2 l (.lst (xs.take i.toNat))) Q) : OWN.tDels ((to, tl) :: r) σ H Q := h
theorem w_del0 {σ : L2.St} {H : Hp} {Q : Hp → Prop} (h : Q H) : OWN.tDels [] σ H Q := h
theorem nV_take (ns : List Nat) (n : Nat) : (nV ns).take n = nV (ns.take n) := List.map_take.symm
theorem nV_at {ns : List Nat} {k n : Nat} (h : ns[k]? = some n) : atI (nV ns) (k : Int) = some (.int (n : Int)) := by
  refine atI_nat ?_
  unfold nV
  rw [List.getElem?_map, h]
  rfl
def spBack (C : Addr) : Sp := fun vs H Q _ => ∃ (o : Addr) (t : TrO) (ns : List Int) (rs : List TRow) (k : Nat), vs = [.ref o, .int (k : Int)] ∧ TrAt C H o t ns rs ∧ rs.length ≤ 100 ∧ (lits rs).Nodup ∧
  ∀ H', TrX o t H H' → TrAt C H' o (t.cut (ed rs (k + 1))) ns (rs.take (ed rs (k + 1))) → Q .non H'
theorem ok_back (T : Txt K mg) : FnOk P w K mg base CX0 1 T.f_Trail_back T.fd_Trail_back ["self", "level"] (spBack T.C_Trail) := by
  refine T.F_Trail_back.ok sc_Trail_back (fun vs H Q E h => ?_) (fun cdv A outer s H vs Q E hr h => ?_)
  · obtain ⟨o, t, ns, rs, k, rfl, _⟩ := h
    rfl
  · obtain ⟨o, t, ns, rs, k, rfl, ht, hl, hnd, h⟩ := h
    have ob := ht.obj
    obtain ⟨kn, hk, hkv⟩ := ht.nd
    obtain ⟨hts, htl, hasc, hnx⟩ := ht.tic
    have hli := ht.li
    have hle := ht.le
    have hre := ht.re
    have hpl := ht.pl
    have hst := ht.st
    obtain ⟨hdf, hdd⟩ := ht.df
    simp only [List.nodup_cons, List.mem_cons, List.not_mem_nil, or_false, not_or, not_false_eq_true, List.nodup_nil, and_true] at hdf
    obtain ⟨⟨a1, a2, a3, a4⟩, ⟨a5, a6, a7⟩, ⟨a8, a9⟩, a10⟩ := hdf
    have b1 := ne_ins ob hli (fun _ _ _ e => by cases e)
    have b2 := ne_ins ob hle (fun _ _ _ e => by cases e)
    have b3 := ne_ins ob hre (fun _ _ _ e => by cases e)
    have b4 := ne_ins ob hst (fun _ _ _ e => by cases e)
    have b5 := ne_ins ob hts (fun _ _ _ e => by cases e)
    have b6 := ne_ins ob hpl (fun _ _ _ e => by cases e)
    have b7 := ne_ins ob hk (fun _ _ _ e => by cases e)
    have c1 := ne_ld hli hpl
    have c2 := ne_ld hle hpl
    have c3 := ne_ld hre hpl
    have c4 := ne_ld hst hpl
    have c5 := ne_ld hts hpl
    have e1 := ne_ld hli hk
    have e2 := ne_ld hle hk
    have e3 := ne_ld hre hk
    have e4 := ne_ld hst hk
    have e5 := ne_ld hts hk
    refine ⟨_, (pss_cons (ps_if (pt_cmpR op_ge (pv 1) (pe_callB call_len_seq (by rfl) T.m_len (by decide +kernel) (pa_cons (pe_fld (pv 0) rfl) pa_nil)) (nomark _)) (pss_one ps_retN) pss_nil)
 (pss_cons (ps_set (i := 2) sc_Trail_back.nd rfl (.inl rfl) (pe_ix ix_list (pe_fld (pv 0) rfl) (pv 1) (fun _ _ => rfl)))
 (pss_cons (ps_for PassesOwn.never rfl (pi_list (pe_slice sl_list (pe_fld (pv 0) rfl) (po_some (pv 2)) po_none)) (pg_name (i := 3) sc_Trail_back.nd rfl (.inl rfl)) (pss_one (ps_ddel (pe_fld (pv 0) rfl) (pv 3))))
 (pss_cons (OWN.ps_dels (OWN.pds_cons (pe_fld (pv 0) rfl) (pv 2) (OWN.pds_cons (pe_fld (pv 0) rfl) (pv 2) (OWN.pds_cons (pe_fld (pv 0) rfl) (pv 2) (OWN.pds_cons (pe_fld (pv 0) rfl) (pv 2) OWN.pds_nil)))))
 (pss_one (OWN.ps_dels (OWN.pds_cons (pe_fld (pv 0) rfl) (pv 1) OWN.pds_nil))))))), ?_⟩
    refine Z.w_start (σ' := [some (.ref o), some (.int (k:Int)), none, none]) rfl ?_
    walk_at "w"
    refine w_fldT T.cl_Trail T.n_Trail__starts ob rfl ?_
    walk_at "w"
    rw [nV_len, starts_len]
    by_cases hd : dep rs ≤ k
    · rw [ed_ge hd, List.take_of_length_le (Nat.le_refl _)] at h
      walk_at "w"
      have et : t.cut rs.length = t := by
        show ({ t with tk := t.tk.take rs.length } : TrO) = t
        rw [List.take_of_length_le (by rw [htl]; exact Nat.le_refl _)]
      rw [et] at h
      exact h _ (TrX.refl _) ht
    · obtain ⟨s0, g1, g2, g3⟩ := ed_lt (show k < dep rs by omega)
      have tst := starts_take (show k < dep rs by omega)
      rw [g2] at h tst
      have hSs : SqL K H t.ls (nV (starts rs)) := .inl (.inl hst)
      have hSl : SqL K H t.ll ((lits rs).map V.int) := .inl (.inl hli)
      have hll : ((lits rs).map V.int).length = rs.length := by rw [List.length_map]; exact List.length_map _
      have aT := nV_at g1
      walk_at "w"
      refine w_fldT T.cl_Trail T.n_Trail__starts ob rfl ?_
      walk_at "w"
      refine w_fldT T.cl_Trail T.n_Trail__literals ob rfl ?_
      walk_at "w"
      refine w_slFrom hSl (by omega) fun p hp => ?_
      walk_at "w"
      refine for_list (xs := ((lits rs).map V.int).drop s0) (fun i σ H' => ∃ x3, σ = [some (.ref o), some (.int (k : Int)), some (.int (s0 : Int)), x3] ∧ i ≤ rs.length - s0 ∧ H' = upd (upd H p (.lst (((lits rs).map V.int).drop s0))) t.dp (.dK (plkB rs s0 i))) ?_ ?_ ?_ ?_
      · refine ⟨_, rfl, Nat.zero_le _, ?_⟩
        unfold plkB
        rw [Nat.add_zero, List.take_append_drop]
        exact (upd_self (by rw [upd_ne (ne_of_none hpl hp)]; exact hpl)).symm
      · rintro i σ H' hi ⟨x3, rfl, _, rfl⟩
        refine .inl (.inl ?_)
        rw [upd_ne (ne_of_none hpl hp).symm, upd_same]
      · rintro i x σ H' hx ⟨x3, rfl, hi, rfl⟩
        rw [List.getElem?_drop, List.getElem?_map] at hx
        unfold lits at hx
        rw [List.getElem?_map] at hx
        cases hr : rs[s0 + i]? with
        | none => rw [hr] at hx; cases hx
        | some r =>
          rw [hr] at hx
          obtain rfl := Option.some.inj hx
          have hi2 := (List.getElem?_eq_some_iff.mp hr).1
          walk_at "w"
          refine w_ddel ?_
          refine w_fldT T.cl_Trail T.n_Trail__places (fs := t.fs t.nx) (dx := t.dx) (by rw [upd_ne b6]; exact upd_of hp ob) rfl ?_
          walk_at "w"
          refine ⟨t.dp, _, Sum.inl r.1, rfl, upd_same, rfl, plkB_some hr, ?_⟩
          rw [upd_upd, plkB_step hnd hr]
          exact ⟨_, rfl, by omega, rfl⟩
      · rintro σ H' ⟨x3, rfl, _, rfl⟩
        rw [List.length_drop, hll]
        have ep : plkB rs s0 (rs.length - s0) = plk (rs.take s0) := by
          unfold plkB
          rw [List.drop_of_length_le (by rw [plk_len]; omega), List.append_nil, plk_take]
        rw [ep]
        have f1 := ne_of_none ob hp
        have f2 := ne_of_none hli hp
        have f3 := ne_of_none hle hp
        have f4 := ne_of_none hre hp
        have f5 := ne_of_none hst hp
        have f6 := ne_of_none hts hp
        have f7 := ne_of_none hk hp
        have f8 := ne_of_none hpl hp
        have hlen : ((lits rs).map V.int).length = rs.length := hll
        walk_at "w"
        refine w_dels (w_del1 ?_)
        refine w_fldT T.cl_Trail T.n_Trail__literals (fs := t.fs t.nx) (dx := t.dx) (by walk_at "hp") rfl ?_
        walk_at "w"
        refine ⟨t.ll, _, _, rfl, rfl, (by walk_at "hp"), by omega, by omega, w_del1 ?_⟩
        refine w_fldT T.cl_Trail T.n_Trail__levels (fs := t.fs t.nx) (dx := t.dx) (by walk_at "hp") rfl ?_
        walk_at "w"
        refine ⟨t.lv, _, _, rfl, rfl, (by walk_at "hp"), by omega, by rw [nV_len, levs_len]; omega, w_del1 ?_⟩
        refine w_fldT T.cl_Trail T.n_Trail__reasons (fs := t.fs t.nx) (dx := t.dx) (by walk_at "hp") rfl ?_
        walk_at "w"
        refine ⟨t.lr, _, _, rfl, rfl, (by walk_at "hp"), by omega, by rw [List.length_map]; omega, w_del1 ?_⟩
        refine w_fldT T.cl_Trail T.n_Trail__tickets (fs := t.fs t.nx) (dx := t.dx) (by walk_at "hp") rfl ?_
        walk_at "w"
        refine ⟨t.lt, _, _, rfl, rfl, (by walk_at "hp"), by omega, by rw [nV_len]; omega, w_del0 ?_⟩
        walk_at "w"
        refine w_dels (w_del1 ?_)
        refine w_fldT T.cl_Trail T.n_Trail__starts (fs := t.fs t.nx) (dx := t.dx) (by walk_at "hp") rfl ?_
        walk_at "w"
        refine ⟨t.ls, _, _, rfl, rfl, (by walk_at "hp"), by omega, by rw [nV_len, starts_len]; omega, w_del0 ?_⟩
        simp only [Int.toNat_natCast]
        walk_at "w"
        have x0 : TrX o t H (upd H p (.lst (((lits rs).map V.int).drop s0))) := fun b x _ e => upd_of hp e
        refine h _ ((((((x0.put (b := t.dp) (by simp)).put (b := t.ll) (by simp)).put (b := t.lv) (by simp)).put (b := t.lr) (by simp)).put (b := t.lt) (by simp)).put (b := t.ls) (by simp)) ?_
        refine ⟨by walk_at "hp", ⟨kn, by walk_at "hp", hkv⟩, lst_eq (by walk_at "hp") ?_, lst_eq (by walk_at "hp") ?_, lst_eq (by walk_at "hp") ?_, dK_eq (by walk_at "hp") ?_, lst_eq (by walk_at "hp") ?_, ⟨lst_eq (by walk_at "hp") ?_, ?_, ?_, ?_⟩, ht.df⟩
        · unfold lits
          rw [← List.map_take, ← List.map_take]
        · rw [nV_take, take_levs]
        · rw [List.map_take]
        · rfl
        · rw [nV_take, tst]
        · exact nV_take _ _
        · show (t.tk.take s0).length = _
          rw [List.length_take, List.length_take, htl]
        · exact hasc.sublist (List.take_sublist _ _)
        · exact fun x hx => hnx x (List.mem_of_mem_take hx)
end
end L

namespace L
open PySem PySem.Spec PyProof.Rows L2 Z
/-- a dict comprehension over a walk -/
theorem dc_it {J : It} {n : Nat} {G : Hp → Prop} {Y : Nat → Hp → V → Hp → Prop} (w : Walk J n G Y) {g : TG} {tt : TT} {tk tv : TE} {vs : List Nat} {σ : L2.St} {H1 : Hp} {D : Addr} {Qd : Hp → Prop} (Pv : Nat → Hp → Prop) (h0 : Pv 0 (upd H1 D (.dK []))) (hG : ∀ i H, i ≤ n → Pv i H → G H)
    (hs : ∀ i x H H', i < n → Pv i H → Y i H x H' → g x (wipe σ vs) H' fun σ2 H2 => wipe σ2 vs = wipe σ vs ∧ tt σ2 H2 fun b H3 =>
      if b = true then tk σ2 H3 fun y H4 => tv σ2 H4 fun z H5 => ∃ kvs k, y = kV k ∧ H5 D = some (.dK kvs) ∧ kvs.length < sizeLine ∧ Pv (i + 1) (upd H5 D (.dK (putK kvs k z))) else Pv (i + 1) H3) (hd : ∀ H, Pv n H → Qd H) :
    ∃ W : Nat → Nat → Hp → Prop, (∃ m, W 0 m (upd H1 D (.dK []))) ∧ ∀ i m H, W i m H →
      (J.stop i H ∧ Qd H) ∨ (J.go i H ∧ ∃ Nx : Hp → Prop, (∀ H', Nx H' → ∃ m', m' < m ∧ W (i + 1) m' H') ∧ ∀ x H', J.yld i H x H' → g x (wipe σ vs) H' fun σ2 H2 => wipe σ2 vs = wipe σ vs ∧ tt σ2 H2 fun b H3 =>
        if b = true then tk σ2 H3 fun y H4 => tv σ2 H4 fun z H5 => ∃ kvs k, y = kV k ∧ H5 D = some (.dK kvs) ∧ kvs.length < sizeLine ∧ Nx (upd H5 D (.dK (putK kvs k z))) else Nx H3) := by
  refine ⟨fun i m H => m = n - i ∧ i ≤ n ∧ Pv i H, ⟨n, by simp, Nat.zero_le _, h0⟩, ?_⟩
  rintro i m H ⟨rfl, hi, p⟩
  have q := hG i H hi p
  by_cases hlt : i < n
  · refine .inr ⟨w.goes i H hlt q, Pv (i + 1), fun H' p' => ⟨n - (i + 1), by omega, rfl, hlt, p'⟩, fun x H' y => hs i x H H' hlt p (w.yields i H x H' hlt q y)⟩
  · have e : i = n := by omega
    subst e
    exact .inl ⟨w.stops H q, hd H p⟩
theorem w_dc {wi : TI} {g : TG} {tt : TT} {tk tv : TE} {ivs : List Nat} {σ : L2.St} {H : Hp} {Q : VK} (h : wi σ H fun J H1 => ∀ D, H1 D = none → ∃ W : Nat → Nat → Hp → Prop, (∃ m, W 0 m (upd H1 D (.dK []))) ∧ ∀ i m H, W i m H →
  (J.stop i H ∧ Q (.ref D) H) ∨ (J.go i H ∧ ∃ Nx : Hp → Prop, (∀ H', Nx H' → ∃ m', m' < m ∧ W (i + 1) m' H') ∧ ∀ x H', J.yld i H x H' → g x (wipe σ ivs) H' fun σ2 H2 => wipe σ2 ivs = wipe σ ivs ∧ tt σ2 H2 fun b H3 =>
    if b = true then tk σ2 H3 fun y H4 => tv σ2 H4 fun z H5 => ∃ kvs k, y = kV k ∧ H5 D = some (.dK kvs) ∧ kvs.length < sizeLine ∧ Nx (upd H5 D (.dK (putK kvs k z))) else Nx H3)) : tDc wi g tt tk tv ivs σ H Q := h
end L

namespace L
open PySem PySem.Spec PyProof.Rows L2 Z M MR MT X2
open _root_.SX (S S_len S_cat S_inj)
section
variable {P : Program} {w : World} {K : PySem.W.Frag} {mg : Str → Option Value} {base : Heap}
structure InitSt (H0 Hc : Hp) (o C dx : Addr) (fs : List (Str × V)) (os : List (Addr × HO)) : Prop where
  sm : Same H0 Hc
  ob : Hc o = some (.ins C dx fs)
  all : ∀ p ∈ os, Hc p.1 = some p.2 ∧ H0 p.1 = none ∧ p.1 ≠ o
  nd : (os.map (·.1)).Nodup
theorem InitSt.step {H0 Hc : Hp} {o C dx l : Addr} {u : HO} {fs fs' : List (Str × V)} {os : List (Addr × HO)} (h : InitSt H0 Hc o C dx fs os) (h0 : H0 o = none) (hl : Hc l = none) : InitSt H0 (upd (upd Hc l u) o (.ins C dx fs')) o C dx fs' (os ++ [(l, u)]) := by
  have nl : l ≠ o := fun e => by subst e; rw [h.ob] at hl; cases hl
  have fl := fresh_of1 h.sm hl
  refine ⟨same_mut (same_of h.sm hl) h0, upd_same, fun p hp => ?_, ?_⟩
  · rcases List.mem_append.mp hp with m | m
    · obtain ⟨g1, g2, g3⟩ := h.all p m
      exact ⟨by rw [upd_ne g3]; exact upd_of hl g1, g2, g3⟩
    · obtain rfl := List.mem_singleton.mp m
      exact ⟨by rw [upd_ne nl, upd_same], fl, nl⟩
  · rw [List.map_append, List.nodup_append]
    refine ⟨h.nd, by simp, fun a ha b hb e => ?_⟩
    obtain rfl : b = l := by simpa using hb
    subst e
    obtain ⟨p, hp, rfl⟩ := List.mem_map.mp ha
    rw [(h.all p hp).1] at hl
    cases hl
theorem w_fld {ta tv : TE} {f : Str} {D : Ends} {σ : L2.St} {H : Hp} (h : tv σ H fun y H1 => ta σ H1 fun x H2 => ∃ a C dx fs, x = .ref a ∧ H2 a = some (.ins C dx fs) ∧ Cls K C ∧ NoAttr K C f ∧ fs.length < 1000 ∧ D.nx σ (upd H2 a (.ins C dx (putF f y fs)))) : sFld K ta tv f D σ H := h
theorem putF_new {f : Str} {v : V} : ∀ {fs : List (Str × V)}, f ∉ fs.map (·.1) → putF f v fs = fs ++ [(f, v)]
  | [], _ => rfl
  | (g, x) :: r, h => by
    rw [List.map_cons, List.mem_cons, not_or] at h
    show (if g = f then _ else _) = _
    rw [if_neg (fun e => h.1 e.symm), putF_new h.2]
    rfl
theorem w_initL {C o dx : Addr} {f : Str} {D : Ends} {σ : L2.St} {H0 H : Hp} {fs : List (Str × V)} {os : List (Addr × HO)} (h : InitSt H0 H o C dx fs os) (h0 : H0 o = none) (hc : Cls K C) (hn : NoAttr K C f) (nm : List Str) (e : fs.map (·.1) = nm) (hf : f ∉ nm) (hl : fs.length < 1000) (q : ∀ l H', InitSt H0 H' o C dx (fs ++ [(f, .ref l)]) (os ++ [(l, .lst [])]) → D.nx (some (.ref o) :: σ) H') : sFld K (tVar 0) (tLst tNil) f D (some (.ref o) :: σ) H := by
  refine w_fld (Z.w_lst (Z.w_nil ⟨Nat.zero_le _, fun l hl' => Z.w_var (v := V.ref o) rfl ⟨o, C, dx, fs, rfl, upd_of hl' h.ob, hc, hn, hl, by rw [putF_new (by rw [e]; exact hf)]; exact q l _ (h.step h0 hl')⟩⟩))
theorem w_initD {C o dx : Addr} {f : Str} {D : Ends} {σ : L2.St} {H0 H : Hp} {fs : List (Str × V)} {os : List (Addr × HO)} (h : InitSt H0 H o C dx fs os) (h0 : H0 o = none) (hc : Cls K C) (hn : NoAttr K C f) (nm : List Str) (e : fs.map (·.1) = nm) (hf : f ∉ nm) (hl : fs.length < 1000) (q : ∀ l H', InitSt H0 H' o C dx (fs ++ [(f, .ref l)]) (os ++ [(l, .dK [])]) → D.nx (some (.ref o) :: σ) H') : sFld K (tVar 0) tDNewK f D (some (.ref o) :: σ) H := by
  refine w_fld (Z.w_dnew fun l hl' => Z.w_var (v := V.ref o) rfl ⟨o, C, dx, fs, rfl, upd_of hl' h.ob, hc, hn, hl, by rw [putF_new (by rw [e]; exact hf)]; exact q l _ (h.step h0 hl')⟩)
theorem w_initC {C o dx : Addr} {f : Str} {v : V} {D : Ends} {σ : L2.St} {H0 H : Hp} {fs : List (Str × V)} {os : List (Addr × HO)} (h : InitSt H0 H o C dx fs os) (h0 : H0 o = none) (hc : Cls K C) (hn : NoAttr K C f) (nm : List Str) (e : fs.map (·.1) = nm) (hf : f ∉ nm) (hl : fs.length < 1000) (q : ∀ H', InitSt H0 H' o C dx (fs ++ [(f, v)]) os → D.nx (some (.ref o) :: σ) H') : sFld K (tVar 0) (tC v) f D (some (.ref o) :: σ) H :=
  w_fld (Z.w_c (Z.w_var (v := V.ref o) rfl ⟨o, C, dx, fs, rfl, h.ob, hc, hn, hl, by rw [putF_new (by rw [e]; exact hf)]; exact q _ ⟨same_mut h.sm h0, upd_same, fun p hp => by
    obtain ⟨g1, g2, g3⟩ := h.all p hp
    exact ⟨by rw [upd_ne g3]; exact g1, g2, g3⟩, h.nd⟩⟩))
def kinI (tup : Bool) (H : Hp) (a : Addr) (ns : List Int) : Prop := if tup then SqT K H a (ns.map V.int) else SqL K H a (ns.map V.int)
def spMk (K : PySem.W.Frag) (C : Addr) (tup : Bool) : Sp := fun vs H Q _ => ∃ (o a dx : Addr) (ns : List Int) (H0 : Hp), vs = [.ref o, .ref a] ∧ H = upd (upd H0 dx (.own o)) o (.ins C dx []) ∧ H0 o = none ∧ H0 dx = none ∧ dx ≠ o ∧ (if tup then SqT K H0 a (ns.map V.int) else SqL K H0 a (ns.map V.int)) ∧ ns.length ≤ 1000 ∧
  ∀ t H', Same H0 H' → (∀ b ∈ [t.dn, t.ll, t.lv, t.lr, t.dp, t.ls, t.lt], H0 b = none) → t.tk = [] → t.nx = 0 → TrAt C H' o t ns [] → Q .non H'
/-- the nodes as a dict -/
def NdI (ns : List Int) (i : Nat) (kn : List (Key × V)) : Prop := kn.length ≤ i ∧ ∀ x : Int, (valV kn (Sum.inl x)).isSome = decide (x ∈ ns.take i)
theorem ndI_next {ns : List Int} {i : Nat} {x : Int} {kn : List (Key × V)} (h : NdI ns i kn) (hx : ns[i]? = some x) : NdI ns (i + 1) (putK kn (Sum.inl x) (.bl true)) := by
  refine ⟨Nat.le_trans (length_putK _ _ _) (by have := h.1; omega), fun y => ?_⟩
  rw [valV_put, List.take_add_one, hx]
  by_cases e : y = x
  · subst e
    simp
  · rw [if_neg (fun z => e (Sum.inl.inj z)), h.2 y]
    simp [e]
theorem putF_nil (f : Str) (v : V) : putF f v [] = [(f, v)] := rfl
theorem ok_init_end (T : Txt K mg) {σ : L2.St} {H0 Hc : Hp} {o dx D : Addr} {ns : List Int} {kn : List (Key × V)} (h0 : H0 o = none) (hI : InitSt H0 Hc o T.C_Trail dx [("_nodes", .ref D)] [(D, .dK kn)]) (hk : ∀ x : Int, (valV kn (Sum.inl x)).isSome = decide (x ∈ ns)) {Q : VK}
  (h : ∀ t H', Same H0 H' → (∀ b ∈ [t.dn, t.ll, t.lv, t.lr, t.dp, t.ls, t.lt], H0 b = none) → t.tk = [] → t.nx = 0 → TrAt T.C_Trail H' o t ns [] → Q .non H')
  {t1 t2 t3 t4 t5 t6 t7 : TS} {Dn : Ends} (e1 : t1 = sFld K (tVar 0) (tLst tNil) "_literals") (e2 : t2 = sFld K (tVar 0) (tLst tNil) "_levels") (e3 : t3 = sFld K (tVar 0) (tLst tNil) "_reasons") (e4 : t4 = sFld K (tVar 0) tDNewK "_places") (e5 : t5 = sFld K (tVar 0) (tLst tNil) "_starts") (e6 : t6 = sFld K (tVar 0) (tLst tNil) "_tickets") (e7 : t7 = sFld K (tVar 0) (tC (.int 0)) "_next_ticket") (eD : Dn.nx = fun _ H' => Q .non H') :
    tSeq t1 (tSeq t2 (tSeq t3 (tSeq t4 (tSeq t5 (tSeq t6 t7))))) Dn (some (.ref o) :: σ) Hc := by
  subst e1 e2 e3 e4 e5 e6 e7
  refine w_seq (w_initL hI h0 T.cl_Trail T.n_Trail__literals ["_nodes"] rfl (by decide +kernel) (show 1 < 1000 by decide) fun l1 H1 h1 => ?_)
  refine w_seq (w_initL h1 h0 T.cl_Trail T.n_Trail__levels ["_nodes", "_literals"] rfl (by decide +kernel) (show 2 < 1000 by decide) fun l2 H2 h2 => ?_)
  refine w_seq (w_initL h2 h0 T.cl_Trail T.n_Trail__reasons ["_nodes", "_literals", "_levels"] rfl (by decide +kernel) (show 3 < 1000 by decide) fun l3 H3 h3 => ?_)
  refine w_seq (w_initD h3 h0 T.cl_Trail T.n_Trail__places ["_nodes", "_literals", "_levels", "_reasons"] rfl (by decide +kernel) (show 4 < 1000 by decide) fun l4 H4 h4 => ?_)
  refine w_seq (w_initL h4 h0 T.cl_Trail T.n_Trail__starts ["_nodes", "_literals", "_levels", "_reasons", "_places"] rfl (by decide +kernel) (show 5 < 1000 by decide) fun l5 H5 h5 => ?_)
  refine w_seq (w_initL h5 h0 T.cl_Trail T.n_Trail__tickets ["_nodes", "_literals", "_levels", "_reasons", "_places", "_starts"] rfl (by decide +kernel) (show 6 < 1000 by decide) fun l6 H6 h6 => ?_)
  refine w_initC h6 h0 T.cl_Trail T.n_Trail__next_ticket ["_nodes", "_literals", "_levels", "_reasons", "_places", "_starts", "_tickets"] rfl (by decide +kernel) (show 7 < 1000 by decide) fun H7 h7 => ?_
  obtain ⟨sm, ob, all, nd⟩ := h7
  rw [eD]
  simp only [List.cons_append, List.nil_append] at all
  simp only [List.cons_append, List.nil_append, List.map_cons, List.map_nil, List.nodup_cons, List.mem_cons, List.not_mem_nil, or_false, not_or, not_false_eq_true, List.nodup_nil, and_true] at nd
  obtain ⟨⟨d1, d2, d3, d4, d5, d6⟩, ⟨d7, d8, d9, d10, d11⟩, ⟨d12, d13, d14, d15⟩, ⟨d16, d17, d18⟩, ⟨d19, d20⟩, d21⟩ := nd
  have hne : ∀ p ∈ [(D, HO.dK kn), (l1, HO.lst []), (l2, HO.lst []), (l3, HO.lst []), (l4, HO.dK []), (l5, HO.lst []), (l6, HO.lst [])], H7 p.1 = some p.2 := fun p hp => (all p hp).1
  refine h ⟨dx, D, l1, l2, l3, l4, l5, l6, [], 0⟩ _ sm (fun b hb => ?_) rfl rfl ?_
  · simp only [List.mem_cons, List.not_mem_nil, or_false] at hb
    rcases hb with rfl | rfl | rfl | rfl | rfl | rfl | rfl
    · exact (all (b, .dK kn) (by simp)).2.1
    · exact (all (b, .lst []) (by simp)).2.1
    · exact (all (b, .lst []) (by simp)).2.1
    · exact (all (b, .lst []) (by simp)).2.1
    · exact (all (b, .dK []) (by simp)).2.1
    · exact (all (b, .lst []) (by simp)).2.1
    · exact (all (b, .lst []) (by simp)).2.1
  · refine ⟨ob, ⟨kn, hne (D, .dK kn) (by simp), hk⟩, hne (l1, .lst []) (by simp), hne (l2, .lst []) (by simp), hne (l3, .lst []) (by simp), hne (l4, .dK []) (by simp), hne (l5, .lst []) (by simp), ⟨hne (l6, .lst []) (by simp), rfl, List.Pairwise.nil, (fun x hx => by cases hx)⟩, ?_, d4⟩
    simp only [List.nodup_cons, List.mem_cons, List.not_mem_nil, or_false, not_or, not_false_eq_true, List.nodup_nil, and_true]
    exact ⟨⟨d7, d8, d10, d11⟩, ⟨d12, d14, d15⟩, ⟨d17, d18⟩, d21⟩
theorem ok_initL (T : Txt K mg) : FnOk P w K mg base CX0 1 T.f_Trail_init T.fd_Trail_init ["self", "nodes"] (spMk K T.C_Trail false) := by
  refine T.F_Trail_init.ok sc_Trail_init (fun vs H Q E h => ?_) (fun cdv A outer s H vs Q E hr h => ?_)
  · obtain ⟨o, a, dx, ns, H0, rfl, _⟩ := h
    rfl
  · obtain ⟨o, a, dx, ns, H0, rfl, rfl, h0, hdx, hne, hS, hl, h⟩ := h
    rw [if_neg (by decide)] at hS
    refine ⟨_, (pss_cons (ps_fld (pv 0) (pe_dc (own := [("node", 2)]) (g := gName 2) (tt := tYes) (by rfl) sc_Trail_init.nd (pi_list (pv 1)) (blkOk_by (own := [("node", 2)]) (N := N_Trail_init) (sc := defScope s_Trail_init) (by decide +kernel)) (fun _ _ _ _ _ => pg_name (i := 2) sc_Trail_init.nd rfl (Or.inl rfl)) (fun _ _ _ _ _ => pts_nil) (fun _ _ _ _ _ => (pv 2)) (fun _ _ _ _ _ => pe_bl)) rfl)
 (pss_cons (ps_fld (pv 0) (pe_lst pa_nil) rfl)
 (pss_cons (ps_fld (pv 0) (pe_lst pa_nil) rfl)
 (pss_cons (ps_fld (pv 0) (pe_lst pa_nil) rfl)
 (pss_cons (ps_fld (pv 0) pe_dnewK rfl)
 (pss_cons (ps_fld (pv 0) (pe_lst pa_nil) rfl)
 (pss_cons (ps_fld (pv 0) (pe_lst pa_nil) rfl)
 (pss_one (ps_fld (pv 0) pe_int rfl))))))))), ?_⟩
    refine Z.w_start (σ' := [some (.ref o), some (.ref a), none]) rfl ?_
    have s1 : Same H0 (upd (upd H0 dx (.own o)) o (.ins T.C_Trail dx [])) := same_mut (same_of (Same.refl _) hdx) h0
    refine w_seq (w_fld (L.w_dc ?_))
    refine Z.w_iList (Z.w_var (v := V.ref a) rfl ⟨a, rfl, ⟨_, Evl.ex_l s1 hS⟩, fun D hD => ?_⟩)
    have hDo : D ≠ o := fun e => by subst e; rw [upd_same] at hD; cases hD
    refine L.dc_it (walk_list (K := K) (a := a) (xs := ns.map V.int)) (fun i H' => ∃ kn, H' = upd (upd (upd H0 dx (.own o)) o (.ins T.C_Trail dx [])) D (.dK kn) ∧ NdI ns i kn) ⟨[], rfl, Nat.le_refl _, fun x => by simp [valV_nil]⟩ ?_ ?_ ?_
    · rintro i H' hi ⟨kn, rfl, _⟩
      exact Evl.ex_l (same_of s1 hD) hS
    · rintro i x H1 H' hi ⟨kn, rfl, hn⟩ ⟨rfl, hx⟩
      rw [List.getElem?_map] at hx
      rw [List.length_map] at hi
      rw [List.getElem?_eq_getElem hi] at hx
      obtain rfl := Option.some.inj hx
      refine Z.w_gname (σ' := [some (.ref o), some (.ref a), some (.int ns[i])]) rfl ⟨rfl, ?_⟩
      walk_at "w"
      refine ⟨kn, Sum.inl ns[i], rfl, upd_same, ?_, _, upd_upd, ndI_next hn (List.getElem?_eq_getElem hi)⟩
      exact Nat.lt_of_le_of_lt hn.1 (Nat.lt_trans (show i < 2000 by omega) (by decide))
    · rintro H' ⟨kn, rfl, hn⟩
      rw [List.length_map] at hn
      have hk : ∀ x : Int, (valV kn (Sum.inl x)).isSome = decide (x ∈ ns) := fun x => by rw [hn.2 x, List.take_length]
      refine Z.w_var (v := V.ref o) rfl ⟨o, T.C_Trail, dx, [], rfl, by rw [upd_ne hDo.symm, upd_same], T.cl_Trail, T.n_Trail__nodes, by decide, ?_⟩
      have hI : InitSt H0 (upd (upd (upd (upd H0 dx (.own o)) o (.ins T.C_Trail dx [])) D (.dK kn)) o (.ins T.C_Trail dx [("_nodes", .ref D)])) o T.C_Trail dx [("_nodes", .ref D)] [(D, .dK kn)] := by
        refine ⟨same_mut (same_of s1 hD) h0, upd_same, fun p hp => ?_, by simp⟩
        obtain rfl := List.mem_singleton.mp hp
        exact ⟨by rw [upd_ne hDo, upd_same], fresh_of1 s1 hD, hDo⟩
      rw [putF_nil]
      generalize upd (upd (upd (upd H0 dx (HO.own o)) o (HO.ins T.C_Trail dx [])) D (HO.dK kn)) o (HO.ins T.C_Trail dx [("_nodes", V.ref D)]) = Hc at *
      dsimp only
      with_reducible refine' ok_init_end T h0 hI hk h ?e1 ?e2 ?e3 ?e4 ?e5 ?e6 ?e7 ?e8
      all_goals rfl
end
end L

namespace UP
/-! what clauses force, going through all of them again and again -/
inductive Der (cs : List (List Int)) (s : List Int) : Int → Prop
  | base {l : Int} : l ∈ s → Der cs s l
  | step {c : List Int} {l : Int} : c ∈ cs → l ∈ c → (∀ k ∈ c, k ≠ l → Der cs s (-k)) → Der cs s l
def left (c f : List Int) : List Int := c.filter fun l => decide (-l ∉ f)
def one (f c : List Int) : Option (List Int) :=
  match left c f with
  | [] => none
  | [l] => some (if l ∈ f then f else f ++ [l])
  | _ :: _ :: _ => some f
def pass : List Int → List (List Int) → Option (List Int)
  | f, [] => some f
  | f, c :: cs => (one f c).bind fun f' => pass f' cs
/-- at most n passes, up to one that finds nothing -/
def runs (cs : List (List Int)) : Nat → List Int → Option (List Int)
  | 0, f => some f
  | n + 1, f => (pass f cs).bind fun f' => if f'.length = f.length then some f' else runs cs n f'
theorem mem_left {c f : List Int} {l : Int} : l ∈ left c f ↔ l ∈ c ∧ -l ∉ f := by
  unfold left
  rw [List.mem_filter]
  simp
theorem one_some {f c f' : List Int} (h : one f c = some f') : f' = f ∨ ∃ l, left c f = [l] ∧ l ∉ f ∧ f' = f ++ [l] := by
  unfold one at h
  split at h
  · cases h
  · rename_i l e
    split at h
    · exact .inl (Option.some.inj h).symm
    · rename_i hn
      exact .inr ⟨l, e, hn, (Option.some.inj h).symm⟩
  · exact .inl (Option.some.inj h).symm
theorem one_none {f c : List Int} (h : one f c = none) : ∀ l ∈ c, -l ∈ f := by
  unfold one at h
  split at h
  · rename_i e
    intro l hl
    by_cases hm : -l ∈ f
    · exact hm
    · have := mem_left.mpr ⟨hl, hm⟩
      rw [e] at this
      cases this
  · cases h
  · cases h
theorem pass_pre : ∀ {cs : List (List Int)} {f f' : List Int}, pass f cs = some f' → f <+: f'
  | [], f, f', h => by
    obtain rfl := Option.some.inj h
    exact List.prefix_refl _
  | c :: cs, f, f', h => by
    unfold pass at h
    cases e : one f c with
    | none => rw [e] at h; cases h
    | some g =>
      rw [e] at h
      have p := pass_pre (cs := cs) (f := g) h
      rcases one_some e with rfl | ⟨l, _, _, rfl⟩
      · exact p
      · exact (List.prefix_append f [l]).trans p
/-- what a pass keeps -/
structure Good (cs : List (List Int)) (s f : List Int) : Prop where
  der : ∀ x ∈ f, Der cs s x
  con : ∀ x ∈ f, -x ∉ f
  nd : f.Nodup
theorem one_good {cs : List (List Int)} {s f c f' : List Int} (hc : c ∈ cs) (h0 : ∀ l ∈ c, l ≠ 0) (g : Good cs s f) (h : one f c = some f') : Good cs s f' := by
  rcases one_some h with rfl | ⟨l, e, hn, rfl⟩
  · exact g
  · obtain ⟨hl, hl2⟩ := mem_left.mp (by rw [e]; exact List.mem_singleton.mpr rfl : l ∈ left c f)
    refine ⟨fun x hx => ?_, fun x hx hx2 => ?_, ?_⟩
    · rcases List.mem_append.mp hx with hx | hx
      · exact g.der x hx
      · rw [List.mem_singleton.mp hx]
        refine .step hc hl fun k hk hne => g.der _ ?_
        by_cases hm : -k ∈ f
        · exact hm
        · have := mem_left.mpr ⟨hk, hm⟩
          rw [e] at this
          exact absurd (List.mem_singleton.mp this) hne
    · have hz := h0 l hl
      rcases List.mem_append.mp hx with hx | hx <;> rcases List.mem_append.mp hx2 with hy | hy
      · exact g.con x hx hy
      · have e2 := List.mem_singleton.mp hy
        have : x = -l := by omega
        rw [this] at hx
        exact hl2 hx
      · rw [List.mem_singleton.mp hx] at hy
        exact hl2 hy
      · have e1 := List.mem_singleton.mp hx
        have e2 := List.mem_singleton.mp hy
        omega
    · rw [List.nodup_append]
      refine ⟨g.nd, by simp, fun a ha b hb e => ?_⟩
      rw [List.mem_singleton.mp hb] at e
      rw [e] at ha
      exact hn ha
theorem pass_good {all : List (List Int)} {s : List Int} : ∀ {cs : List (List Int)} {f : List Int}, (∀ c ∈ cs, c ∈ all) → (∀ c ∈ cs, ∀ l ∈ c, l ≠ 0) → Good all s f → (∀ f', pass f cs = some f' → Good all s f') ∧ (pass f cs = none → ∃ c ∈ all, ∀ l ∈ c, Der all s (-l))
  | [], f, _, _, g => ⟨fun f' h => by obtain rfl := Option.some.inj h; exact g, fun h => by cases h⟩
  | c :: cs, f, hc, h0, g => by
    unfold pass
    cases e : one f c with
    | none => exact ⟨(fun f' h => by cases h), fun _ => ⟨c, hc c List.mem_cons_self, fun l hl => g.der _ (one_none e l hl)⟩⟩
    | some f1 =>
      have g1 := one_good (hc c List.mem_cons_self) (h0 c List.mem_cons_self) g e
      exact pass_good (cs := cs) (fun d hd => hc d (List.mem_cons_of_mem _ hd)) (fun d hd => h0 d (List.mem_cons_of_mem _ hd)) g1
/-- a pass that finds nothing: closed -/
theorem pass_fix : ∀ {cs : List (List Int)} {f : List Int}, pass f cs = some f → ∀ c ∈ cs, left c f ≠ [] ∧ ∀ l, left c f = [l] → l ∈ f
  | [], f, _, c, hc => by cases hc
  | d :: cs, f, h, c, hc => by
    unfold pass at h
    cases e : one f d with
    | none => rw [e] at h; cases h
    | some g =>
      rw [e] at h
      have p : g <+: f := pass_pre (cs := cs) (f := g) h
      have eg : g = f := by
        rcases one_some e with rfl | ⟨l, _, _, rfl⟩
        · rfl
        · have := p.length_le
          rw [List.length_append, List.length_singleton] at this
          omega
      subst eg
      rcases List.mem_cons.mp hc with rfl | hc
      · unfold one at e
        split at e
        · cases e
        · rename_i l el
          refine ⟨by rw [el]; simp, fun k hk => ?_⟩
          rw [el] at hk
          obtain rfl : l = k := by simpa using hk
          split at e
          · assumption
          · have := congrArg List.length (Option.some.inj e)
            rw [List.length_append, List.length_singleton] at this
            omega
        · rename_i a b r el
          exact ⟨by rw [el]; simp, fun k hk => by rw [el] at hk; simp at hk⟩
      · exact pass_fix (cs := cs) h c hc
theorem closed {cs : List (List Int)} {s f : List Int} (hn : ∀ c ∈ cs, c.Nodup) (hs : ∀ x ∈ s, x ∈ f) (h : ∀ c ∈ cs, left c f ≠ [] ∧ ∀ l, left c f = [l] → l ∈ f) {x : Int} (d : Der cs s x) : x ∈ f := by
  induction d with
  | base hx => exact hs _ hx
  | @step c l hc hl _ ih =>
    obtain ⟨h1, h2⟩ := h c hc
    have hall : ∀ k ∈ left c f, k = l := fun k hk => by
      obtain ⟨a, b⟩ := mem_left.mp hk
      by_cases e : k = l
      · exact e
      · exact absurd (ih k a e) b
    have hnd : (left c f).Nodup := (hn c hc).sublist List.filter_sublist
    cases e : left c f with
    | nil => exact absurd e h1
    | cons a r =>
      rw [e] at hall hnd
      have ea := hall a List.mem_cons_self
      cases r with
      | nil => exact h2 l (by rw [e, ea])
      | cons b r =>
        have eb := hall b (List.mem_cons_of_mem _ List.mem_cons_self)
        rw [List.nodup_cons] at hnd
        exact absurd (by rw [ea, eb]; exact List.mem_cons_self) hnd.1
theorem runs_spec {cs : List (List Int)} {s : List Int} (hn : ∀ c ∈ cs, c.Nodup) (h0 : ∀ c ∈ cs, ∀ l ∈ c, l ≠ 0) (B : Nat) (hb : ∀ f, Good cs s f → f.length ≤ B) : ∀ (n : Nat) {f : List Int}, Good cs s f → (∀ x ∈ s, x ∈ f) → B < f.length + n →
    (∀ f', runs cs n f = some f' → f'.Nodup ∧ (∀ x, x ∈ f' ↔ Der cs s x) ∧ ∀ c ∈ cs, ∃ l ∈ c, ¬ Der cs s (-l)) ∧ (runs cs n f = none → ∃ c ∈ cs, ∀ l ∈ c, Der cs s (-l))
  | 0, f, g, _, hB => by
    have := hb f g
    omega
  | n + 1, f, g, hs, hB => by
    have pg := pass_good (all := cs) (s := s) (cs := cs) (f := f) (fun _ h => h) h0 g
    unfold runs
    cases e : pass f cs with
    | none => exact ⟨(fun f' h => by cases h), fun _ => pg.2 e⟩
    | some f1 =>
      have g1 := pg.1 f1 e
      have pre := pass_pre e
      show (∀ f', (if f1.length = f.length then some f1 else runs cs n f1) = some f' → _) ∧ ((if f1.length = f.length then some f1 else runs cs n f1) = none → _)
      by_cases hl : f1.length = f.length
      · rw [if_pos hl]
        have ef : f1 = f := (pre.eq_of_length hl.symm).symm
        subst ef
        have fx := pass_fix e
        refine ⟨fun f' h => ?_, fun h => by cases h⟩
        obtain rfl := Option.some.inj h
        have iff1 : ∀ x, x ∈ f1 ↔ Der cs s x := fun x => ⟨g1.der x, closed hn hs fx⟩
        refine ⟨g1.nd, iff1, fun c hc => ?_⟩
        obtain ⟨k1, _⟩ := fx c hc
        cases el : left c f1 with
        | nil => exact absurd el k1
        | cons a r =>
          obtain ⟨ha, hb2⟩ := mem_left.mp (by rw [el]; exact List.mem_cons_self : a ∈ left c f1)
          exact ⟨a, ha, fun d => hb2 ((iff1 _).mpr d)⟩
      · rw [if_neg hl]
        have := pre.length_le
        exact runs_spec hn h0 B hb n g1 (fun x hx => pre.subset (hs x hx)) (by omega)
/-- a trail that is sound and closed has just what is forced -/
theorem trail_iff {cs : List (List Int)} {s t : List Int} (hs : ∀ x ∈ s, x ∈ t) (hd : ∀ x ∈ t, Der cs s x) (hc : ∀ c ∈ cs, ∀ l ∈ c, (∀ k ∈ c, k ≠ l → -k ∈ t) → l ∈ t) (x : Int) : x ∈ t ↔ Der cs s x := by
  refine ⟨hd x, fun d => ?_⟩
  induction d with
  | base hx => exact hs _ hx
  | @step c l hcs hl _ ih => exact hc c hcs l hl ih
end UP

namespace WA
/-! two watched literals: a trail t of literals with levels, of which the first k were visited -/
abbrev Tr := List (Int × Nat)
def lits (t : Tr) : List Int := t.map (·.1)
/-- x false among the visited: the other one true, at a level not above -/
def Half (t : Tr) (k : Nat) (x y : Int) : Prop := ∀ (i : Nat) (v : Nat), i < k → t[i]? = some (-x, v) → ∃ (j : Nat) (u : Nat), t[j]? = some (y, u) ∧ u ≤ v
structure WI (t : Tr) (k : Nat) (c : List Int) (a b : Int) : Prop where
  ne : a ≠ b
  ma : a ∈ c
  mb : b ∈ c
  ab : Half t k a b
  ba : Half t k b a
theorem Half.grow {t n : Tr} {k : Nat} {x y : Int} (h : Half t k x y) (hk : k ≤ t.length) : Half (t ++ n) k x y := fun i v hi e => by
  rw [List.getElem?_append_left (by omega)] at e
  obtain ⟨j, u, e2, hu⟩ := h i v hi e
  exact ⟨j, u, by rw [List.getElem?_append_left (List.getElem?_eq_some_iff.mp e2).1]; exact e2, hu⟩
theorem WI.grow {t n : Tr} {k : Nat} {c : List Int} {a b : Int} (h : WI t k c a b) (hk : k ≤ t.length) : WI (t ++ n) k c a b := ⟨h.ne, h.ma, h.mb, h.ab.grow hk, h.ba.grow hk⟩
theorem WI.swap {t : Tr} {k : Nat} {c : List Int} {a b : Int} (h : WI t k c a b) : WI t k c b a := ⟨h.ne.symm, h.mb, h.ma, h.ba, h.ab⟩
/-- going back to a level: the first m are those at or below it -/
theorem Half.back {t : Tr} {k m L : Nat} {x y : Int} (h : Half t k x y) (hm : ∀ (i : Nat) (p : Int × Nat), t[i]? = some p → (i < m ↔ p.2 ≤ L)) : Half (t.take m) (min k m) x y := fun i v hi e => by
  have him : i < m := by omega
  rw [List.getElem?_take, if_pos him] at e
  obtain ⟨j, u, e2, hu⟩ := h i v (by omega) e
  have hv : v ≤ L := (hm i _ e).mp him
  have hj : j < m := (hm j _ e2).mpr (show u ≤ L by omega)
  exact ⟨j, u, by rw [List.getElem?_take, if_pos hj]; exact e2, hu⟩
theorem WI.back {t : Tr} {k m L : Nat} {c : List Int} {a b : Int} (h : WI t k c a b) (hm : ∀ (i : Nat) (p : Int × Nat), t[i]? = some p → (i < m ↔ p.2 ≤ L)) : WI (t.take m) (min k m) c a b := ⟨h.ne, h.ma, h.mb, h.ab.back hm, h.ba.back hm⟩
/-- one more is visited, which is no negation of x -/
theorem Half.next {t : Tr} {k : Nat} {x y : Int} (h : Half t k x y) (hn : ∀ v, t[k]? ≠ some (-x, v)) : Half t (k + 1) x y := fun i v hi e => by
  by_cases z : i = k
  · rw [z] at e
    exact absurd e (hn v)
  · exact h i v (by omega) e
/-- one more is visited, the negation of x, while y is true at a level not above -/
theorem Half.here {t : Tr} {k : Nat} {x y : Int} (h : Half t k x y) {v j u : Nat} (hk : t[k]? = some (-x, v)) (hj : t[j]? = some (y, u)) (hu : u ≤ v) : Half t (k + 1) x y := fun i w hi e => by
  by_cases z : i = k
  · rw [z, hk] at e
    have : v = w := by
      have := Option.some.inj e
      exact (Prod.mk.inj this).2
    exact ⟨j, u, hj, by omega⟩
  · exact h i w (by omega) e
/-- a literal that is not false may be watched whatever was visited -/
theorem Half.open' {t : Tr} {k : Nat} {x y : Int} (hx : -x ∉ lits t) : Half t k x y := fun i v _ e => absurd (List.mem_map.mpr ⟨_, List.mem_of_getElem? e, rfl⟩) hx
/-- all visited: the clause is neither false nor due -/
theorem WI.closed {t : Tr} {c : List Int} {a b : Int} (h : WI t t.length c a b) (con : ∀ x ∈ lits t, -x ∉ lits t) {l : Int} (hall : ∀ k ∈ c, k ≠ l → -k ∈ lits t) : l ∈ lits t := by
  have key : ∀ {x y : Int}, Half t t.length x y → -x ∈ lits t → y ∈ lits t := fun {x y} hh hx => by
    obtain ⟨p, hp, e⟩ := List.mem_map.mp hx
    obtain ⟨i, hi⟩ := List.mem_iff_getElem?.mp hp
    have e2 : t[i]? = some (-x, p.2) := by
      rw [hi]
      congr 1
      exact Prod.ext e rfl
    obtain ⟨j, u, hj, _⟩ := hh i _ (List.getElem?_eq_some_iff.mp hi).1 e2
    exact List.mem_map.mpr ⟨_, List.mem_of_getElem? hj, rfl⟩
  by_cases ea : a = l
  · subst ea
    exact key h.ba (hall b h.mb h.ne.symm)
  · have hb := key h.ab (hall a h.ma ea)
    by_cases eb : b = l
    · exact eb ▸ hb
    · exact absurd (hall b h.mb eb) (con b hb)
theorem WI.true' {t : Tr} {c : List Int} {a b : Int} (h : WI t t.length c a b) (con : ∀ x ∈ lits t, -x ∉ lits t) : ∃ l ∈ c, -l ∉ lits t := by
  by_cases ha : -a ∈ lits t
  · refine ⟨b, h.mb, fun hb => ?_⟩
    have hall : ∀ k ∈ [a, b], k ≠ b → -k ∈ lits t := fun k hk hne => by
      rcases List.mem_cons.mp hk with rfl | hk
      · exact ha
      · exact absurd (List.mem_singleton.mp hk) hne
    have h2 : WI t t.length [a, b] a b := ⟨h.ne, by simp, by simp, h.ab, h.ba⟩
    exact con b (h2.closed con hall) hb
  · exact ⟨a, h.ma, ha⟩
end WA

namespace WA
/-! clauses put, their watched pairs, the fresh ones; a trail t at depth d of which the first k were visited -/
def At (t : Tr) (l : Int) (v : Nat) : Prop := ∃ i : Nat, t[i]? = some (l, v)
theorem At.mem {t : Tr} {l : Int} {v : Nat} (h : At t l v) : l ∈ lits t := by
  obtain ⟨i, h⟩ := h
  exact List.mem_map.mpr ⟨_, List.mem_of_getElem? h, rfl⟩
theorem At.of {t : Tr} {l : Int} (h : l ∈ lits t) : ∃ v, At t l v := by
  obtain ⟨p, hp, e⟩ := List.mem_map.mp h
  obtain ⟨i, hi⟩ := List.mem_iff_getElem?.mp hp
  refine ⟨p.2, i, ?_⟩
  rw [hi, ← e]
theorem At.grow {t n : Tr} {l : Int} {v : Nat} (h : At t l v) : At (t ++ n) l v := by
  obtain ⟨i, h⟩ := h
  exact ⟨i, by rw [List.getElem?_append_left (List.getElem?_eq_some_iff.mp h).1]; exact h⟩
/-- a fresh clause and its pair -/
structure FI (t : Tr) (d k : Nat) (c : List Int) (a b : Int) : Prop where
  ne : a ≠ b
  ma : a ∈ c
  mb : b ∈ c
  one : ∀ (i v : Nat), i < k → t[i]? = some (-a, v) → ∀ l ∈ c, ∃ u, At t (-l) u ∧ u ≤ v
  two : ∀ (i v : Nat), i < k → t[i]? = some (-b, v) → (∀ l ∈ c, l ≠ a → ∃ u, At t (-l) u ∧ u ≤ v) ∧ (v = d ∨ ∃ u, At t a u ∧ u ≤ v)
/-- the trail -/
structure TI (t : Tr) (d k : Nat) : Prop where
  kle : k ≤ t.length
  nd : ((lits t).map Int.natAbs).Nodup
  top : ∀ (i : Nat) (p : Int × Nat), t[i]? = some p → p.2 ≤ d
  unv : ∀ (i : Nat) (p : Int × Nat), k ≤ i → t[i]? = some p → p.2 = d
theorem nd_eq {xs : List Int} (h : (xs.map Int.natAbs).Nodup) : ∀ {x y : Int}, x ∈ xs → y ∈ xs → x.natAbs = y.natAbs → x = y := by
  induction xs with
  | nil => intro x y hx; cases hx
  | cons a xs ih =>
    rw [List.map_cons, List.nodup_cons] at h
    intro x y hx hy e
    rcases List.mem_cons.mp hx with e1 | hx1 <;> rcases List.mem_cons.mp hy with e2 | hy1
    · rw [e1, e2]
    · exact absurd (List.mem_map.mpr ⟨y, hy1, by rw [← e, e1]⟩) h.1
    · exact absurd (List.mem_map.mpr ⟨x, hx1, by rw [e, e2]⟩) h.1
    · exact ih h.2 hx1 hy1 e
theorem TI.con {t : Tr} {d k : Nat} (h : TI t d k) {x : Int} (hz : x ≠ 0) (h1 : x ∈ lits t) (h2 : -x ∈ lits t) : False := by
  have := nd_eq h.nd h1 h2 (by rw [Int.natAbs_neg])
  omega
/-- a clause with its watched literals: w -/
def One (t : Tr) (d k : Nat) (c : List Int) (fresh : Bool) (w : List Int) : Prop :=
  if 2 ≤ c.length then ∃ a b, w = [a, b] ∧ if fresh = true then FI t d k c a b else WI t k c a b
  else w = c ∧ if fresh = true then (c ≠ [] → d = 0) else ∃ l, c = [l] ∧ At t l 0
theorem One.pair {t : Tr} {d k : Nat} {c w : List Int} {fresh : Bool} (h : One t d k c fresh w) (h2 : 2 ≤ c.length) : ∃ a b, w = [a, b] ∧ a ≠ b ∧ a ∈ c ∧ b ∈ c := by
  unfold One at h
  rw [if_pos h2] at h
  obtain ⟨a, b, e, h⟩ := h
  cases fresh with
  | true =>
    rw [if_pos rfl] at h
    exact ⟨a, b, e, h.ne, h.ma, h.mb⟩
  | false =>
    rw [if_neg (by decide)] at h
    exact ⟨a, b, e, h.ne, h.ma, h.mb⟩
theorem FI.grow {t n : Tr} {d k : Nat} {c : List Int} {a b : Int} (h : FI t d k c a b) (hk : k ≤ t.length) : FI (t ++ n) d k c a b := by
  refine ⟨h.ne, h.ma, h.mb, fun i v hi e l hl => ?_, fun i v hi e => ?_⟩
  · rw [List.getElem?_append_left (by omega)] at e
    obtain ⟨u, h1, h2⟩ := h.one i v hi e l hl
    exact ⟨u, h1.grow, h2⟩
  · rw [List.getElem?_append_left (by omega)] at e
    obtain ⟨h1, h2⟩ := h.two i v hi e
    refine ⟨fun l hl hn => ?_, h2.imp id fun ⟨u, h3, h4⟩ => ⟨u, h3.grow, h4⟩⟩
    obtain ⟨u, h3, h4⟩ := h1 l hl hn
    exact ⟨u, h3.grow, h4⟩
theorem One.grow {t n : Tr} {d k : Nat} {c w : List Int} {fresh : Bool} (h : One t d k c fresh w) (hk : k ≤ t.length) : One (t ++ n) d k c fresh w := by
  unfold One at h ⊢
  by_cases h2 : 2 ≤ c.length
  · rw [if_pos h2] at h ⊢
    obtain ⟨a, b, e, h⟩ := h
    refine ⟨a, b, e, ?_⟩
    cases fresh with
    | true => exact FI.grow h hk
    | false => exact WI.grow h hk
  · rw [if_neg h2] at h ⊢
    refine ⟨h.1, ?_⟩
    cases fresh with
    | true => exact h.2
    | false =>
      obtain ⟨l, e, q⟩ := h.2
      exact ⟨l, e, q.grow⟩
theorem TI.grow {t : Tr} {d k : Nat} {l : Int} (h : TI t d k) (h1 : l ∉ lits t) (h2 : -l ∉ lits t) : TI (t ++ [(l, d)]) d k := by
  refine ⟨by rw [List.length_append]; exact Nat.le_trans h.kle (Nat.le_add_right _ _), ?_, fun i p e => ?_, fun i p hi e => ?_⟩
  · unfold lits
    rw [List.map_append, List.map_append, List.nodup_append]
    refine ⟨h.nd, by simp, fun a ha b hb e => ?_⟩
    obtain rfl : b = l.natAbs := by simpa using hb
    obtain ⟨x, hx, rfl⟩ := List.mem_map.mp ha
    rcases Int.natAbs_eq_natAbs_iff.mp e with q | q
    · rw [q] at hx; exact h1 hx
    · rw [q] at hx; exact h2 hx
  · by_cases hi : i < t.length
    · rw [List.getElem?_append_left hi] at e
      exact h.top i p e
    · rw [List.getElem?_append_right (by omega)] at e
      have := List.mem_of_getElem? e
      rw [List.mem_singleton.mp this]
      exact Nat.le_refl _
  · by_cases hl : i < t.length
    · rw [List.getElem?_append_left hl] at e
      exact h.unv i p hi e
    · rw [List.getElem?_append_right (by omega)] at e
      have := List.mem_of_getElem? e
      rw [List.mem_singleton.mp this]
/-- a literal is chosen: all was visited -/
theorem TI.choose {t : Tr} {d : Nat} {l : Int} (h : TI t d t.length) (h1 : l ∉ lits t) (h2 : -l ∉ lits t) : TI (t ++ [(l, d + 1)]) (d + 1) t.length := by
  have q : TI t (d + 1) t.length := ⟨h.kle, h.nd, fun i p e => Nat.le_succ_of_le (h.top i p e), fun i p hi e => absurd (List.getElem?_eq_some_iff.mp e).1 (by omega)⟩
  exact q.grow h1 h2
theorem At.back {t : Tr} {m L : Nat} {l : Int} {u : Nat} (h : At t l u) (hm : ∀ (i : Nat) (p : Int × Nat), t[i]? = some p → (i < m ↔ p.2 ≤ L)) (hu : u ≤ L) : At (t.take m) l u := by
  obtain ⟨i, e⟩ := h
  exact ⟨i, by rw [List.getElem?_take, if_pos ((hm i _ e).mpr hu)]; exact e⟩
theorem FI.back {t : Tr} {d k m L : Nat} {c : List Int} {a b : Int} (h : FI t d k c a b) (hm : ∀ (i : Nat) (p : Int × Nat), t[i]? = some p → (i < m ↔ p.2 ≤ L)) : FI (t.take m) (min d L) (min k m) c a b := by
  refine ⟨h.ne, h.ma, h.mb, fun i v hi e l hl => ?_, fun i v hi e => ?_⟩
  · rw [List.getElem?_take, if_pos (show i < m by omega)] at e
    obtain ⟨u, h1, h2⟩ := h.one i v (by omega) e l hl
    have hv : v ≤ L := (hm i _ e).mp (by omega)
    exact ⟨u, h1.back hm (by omega), h2⟩
  · rw [List.getElem?_take, if_pos (show i < m by omega)] at e
    obtain ⟨h1, h2⟩ := h.two i v (by omega) e
    have hv : v ≤ L := (hm i _ e).mp (by omega)
    refine ⟨fun l hl hn => ?_, h2.imp (fun z => by omega) fun ⟨u, h3, h4⟩ => ⟨u, h3.back hm (by omega), h4⟩⟩
    obtain ⟨u, h3, h4⟩ := h1 l hl hn
    exact ⟨u, h3.back hm (by omega), h4⟩
theorem One.back {t : Tr} {d k m L : Nat} {c w : List Int} {fresh : Bool} (h : One t d k c fresh w) (hm : ∀ (i : Nat) (p : Int × Nat), t[i]? = some p → (i < m ↔ p.2 ≤ L)) : One (t.take m) (min d L) (min k m) c fresh w := by
  unfold One at h ⊢
  by_cases h2 : 2 ≤ c.length
  · rw [if_pos h2] at h ⊢
    obtain ⟨a, b, e, h⟩ := h
    refine ⟨a, b, e, ?_⟩
    cases fresh with
    | true => exact FI.back h hm
    | false => exact WI.back h hm
  · rw [if_neg h2] at h ⊢
    refine ⟨h.1, ?_⟩
    cases fresh with
    | true => exact fun hc => by rw [h.2 hc]; exact Nat.zero_min _
    | false =>
      obtain ⟨l, e, q⟩ := h.2
      exact ⟨l, e, q.back hm (Nat.zero_le _)⟩
theorem TI.back {t : Tr} {d k m L : Nat} (h : TI t d k) (hm : ∀ (i : Nat) (p : Int × Nat), t[i]? = some p → (i < m ↔ p.2 ≤ L)) : TI (t.take m) (min d L) (min k m) := by
  refine ⟨?_, ?_, fun i p e => ?_, fun i p hi e => ?_⟩
  · rw [List.length_take]
    have := h.kle
    omega
  · unfold lits
    rw [List.map_take, List.map_take]
    exact h.nd.sublist (List.take_sublist _ _)
  · have him : i < m := by
      have := (List.getElem?_eq_some_iff.mp e).1
      rw [List.length_take] at this
      omega
    rw [List.getElem?_take, if_pos him] at e
    have h1 := h.top i p e
    have h2 := (hm i p e).mp him
    omega
  · have him : i < m := by
      have := (List.getElem?_eq_some_iff.mp e).1
      rw [List.length_take] at this
      omega
    rw [List.getElem?_take, if_pos him] at e
    have h1 := h.unv i p (by omega) e
    have h2 := (hm i p e).mp him
    omega
/-- what the watchers' order picks at the put -/
def rkW (t : Tr) (l : Int) : Option Nat := (t.find? fun p => decide (p.1 = -l)).map (·.2)
theorem rkW_at {t : Tr} {d k : Nat} (h : TI t d k) {l : Int} {v : Nat} (e : At t (-l) v) : rkW t l = some v := by
  obtain ⟨i, e⟩ := e
  unfold rkW
  have hmem := List.mem_of_getElem? e
  cases hf : t.find? fun p => decide (p.1 = -l) with
  | none =>
    have := List.find?_eq_none.mp hf _ hmem
    simp at this
  | some p =>
    have hp := List.find?_some (p := fun p : Int × Nat => decide (p.1 = -l)) hf
    have hpm := List.mem_of_find?_eq_some hf
    have e1 : p.1 = -l := of_decide_eq_true hp
    -- one row alone has this literal
    have nd : (lits t).Nodup := by
      have := h.nd
      exact List.Pairwise.imp_of_mem (R := fun a b => a.natAbs ≠ b.natAbs) (fun _ _ q z => q (by rw [z])) (List.pairwise_map.mp this)
    obtain ⟨j, hj⟩ := List.mem_iff_getElem?.mp hpm
    have a1 : (lits t)[i]? = some (-l) := by unfold lits; rw [List.getElem?_map, e]; rfl
    have a2 : (lits t)[j]? = some (-l) := by unfold lits; rw [List.getElem?_map, hj, ← e1]; rfl
    have ij : i = j := (List.getElem?_inj (List.getElem?_eq_some_iff.mp a1).1 nd).mp (a1.trans a2.symm)
    subst ij
    rw [e] at hj
    rw [← Option.some.inj hj]
    rfl
theorem rkW_some {t : Tr} {l : Int} {v : Nat} (e : rkW t l = some v) : At t (-l) v := by
  unfold rkW at e
  cases hf : t.find? fun p => decide (p.1 = -l) with
  | none => rw [hf] at e; cases e
  | some p =>
    rw [hf] at e
    have hp : p.1 = -l := of_decide_eq_true (List.find?_some (p := fun p : Int × Nat => decide (p.1 = -l)) hf)
    obtain ⟨i, hi⟩ := List.mem_iff_getElem?.mp (List.mem_of_find?_eq_some hf)
    have e2 : p.2 = v := Option.some.inj e
    exact ⟨i, by rw [hi, ← hp, ← e2]⟩
theorem rkW_none {t : Tr} {l : Int} (e : rkW t l = none) : -l ∉ lits t := fun z => by
  obtain ⟨v, i, hi⟩ := At.of z
  unfold rkW at e
  rw [Option.map_eq_none_iff] at e
  have := List.find?_eq_none.mp e _ (List.mem_of_getElem? hi)
  simp at this
/-- x before y: not false, or of a greater level -/
def Ahead (t : Tr) (x y : Int) : Prop := ∀ v, rkW t x = some v → ∃ u, rkW t y = some u ∧ u ≤ v
/-- what is asked of a clause that is put -/
def PutOk (t : Tr) (d : Nat) (c : List Int) : Prop := (c.length = 1 → d = 0) ∧ (d = 0 ∨ (∃ x ∈ c, ∃ y ∈ c, x ≠ y ∧ -x ∉ lits t ∧ -y ∉ lits t) ∨ (∃ x ∈ c, At t (-x) d) ∧ ∃ x ∈ c, -x ∉ lits t)
theorem put_one {t : Tr} {d k : Nat} (h : TI t d k) {c w : List Int} (ok : PutOk t d c) (nd : c.Nodup) (ys : List Int) (hp : ys.Perm c) (hs : ys.Pairwise (Ahead t)) (hw : w = ys.take 2) : One t d k c true w := by
  subst hw
  unfold One
  by_cases h2 : 2 ≤ c.length
  · rw [if_pos h2]
    have hl := hp.length_eq
    obtain ⟨a, b, r, rfl⟩ : ∃ a b r, ys = a :: b :: r := by
      match ys, hl with
      | a :: b :: r, _ => exact ⟨a, b, r, rfl⟩
      | [_], hl => simp at hl; omega
      | [], hl => simp at hl; omega
    have ndy : (a :: b :: r).Nodup := hp.nodup_iff.mpr nd
    rw [List.pairwise_cons, List.pairwise_cons] at hs
    obtain ⟨s1, s2, _⟩ := hs
    have ne : a ≠ b := fun z => by
      rw [List.nodup_cons] at ndy
      exact ndy.1 (by rw [z]; exact List.mem_cons_self)
    have memc : ∀ {x}, x ∈ a :: b :: r ↔ x ∈ c := fun {x} => hp.mem_iff
    refine ⟨a, b, rfl, ?_⟩
    rw [if_pos rfl]
    refine ⟨ne, memc.mp List.mem_cons_self, memc.mp (List.mem_cons_of_mem _ List.mem_cons_self), fun i v hi e l hl => ?_, fun i v hi e => ?_⟩
    · have ra := rkW_at h ⟨i, e⟩
      rcases List.mem_cons.mp (memc.mpr hl) with rfl | hl2
      · exact ⟨v, ⟨i, e⟩, Nat.le_refl _⟩
      · obtain ⟨u, hu, hle⟩ := s1 l hl2 v ra
        exact ⟨u, rkW_some hu, hle⟩
    · have rb := rkW_at h ⟨i, e⟩
      have all : ∀ l ∈ c, l ≠ a → ∃ u, At t (-l) u ∧ u ≤ v := fun l hl hn => by
        rcases List.mem_cons.mp (memc.mpr hl) with rfl | hl2
        · exact absurd rfl hn
        · rcases List.mem_cons.mp hl2 with rfl | hl3
          · exact ⟨v, ⟨i, e⟩, Nat.le_refl _⟩
          · obtain ⟨u, hu, hle⟩ := s2 l hl3 v rb
            exact ⟨u, rkW_some hu, hle⟩
      refine ⟨all, ?_⟩
      rcases ok.2 with d0 | ⟨x, hx, y, hy, hxy, nx, ny⟩ | ⟨⟨x, hx, ax⟩, y, hy, ny⟩
      · have := h.top i _ e
        exact .inl (by show v = d; have : v ≤ d := this; omega)
      · by_cases e1 : x = a
        · obtain ⟨u, hu, _⟩ := all y hy (fun z => hxy (by rw [e1, z]))
          exact absurd hu.mem ny
        · obtain ⟨u, hu, _⟩ := all x hx e1
          exact absurd hu.mem nx
      · have ya : y = a := by
          by_cases e1 : y = a
          · exact e1
          · obtain ⟨u, hu, _⟩ := all y hy e1
            exact absurd hu.mem ny
        have xa : x ≠ a := fun z => by
          rw [ya, ← z] at ny
          exact ny ax.mem
        obtain ⟨u, hu, hle⟩ := all x hx xa
        have r1 := rkW_at h ax
        have r2 := rkW_at h hu
        rw [r1] at r2
        have : d = u := Option.some.inj r2
        have := h.top i _ e
        exact .inl (by show v = d; have : v ≤ d := this; omega)
  · rw [if_neg h2]
    have hl := hp.length_eq
    have e : ys.take 2 = ys := List.take_of_length_le (by omega)
    have e2 : ys = c := by
      match ys, c, hp, hl with
      | [], [], _, _ => rfl
      | [x], [y], hp, _ => rw [List.singleton_perm_singleton.mp hp]
      | _ :: _ :: _, _, _, hl => simp at hl; omega
      | [_], [], _, hl => simp at hl
      | [], _ :: _, _, hl => simp at hl
      | [_], _ :: _ :: _, _, hl => simp at hl
    refine ⟨by rw [e, e2], ?_⟩
    rw [if_pos rfl]
    intro hc
    refine ok.1 ?_
    match c, hc with
    | [_], _ => rfl
    | _ :: _ :: _, _ => simp at h2
    | [], hc => exact absurd rfl hc
/-- a fresh clause was looked at: it isn't false, and what it forces was put on at the depth -/
theorem fresh_done {t : Tr} {d k : Nat} (h : TI t d k) {c w : List Int} (nz : ∀ l ∈ c, l ≠ 0) (o : One t d k c true w) {x : Int} (hx : x ∈ c) (nx : -x ∉ lits t) (one : (∀ l ∈ c, l ≠ x → -l ∈ lits t) → ∃ u, At t x u) : One t d k c false w := by
  unfold One at o ⊢
  by_cases h2 : 2 ≤ c.length
  · rw [if_pos h2] at o ⊢
    obtain ⟨a, b, e, f⟩ := o
    rw [if_pos rfl] at f
    refine ⟨a, b, e, ?_⟩
    rw [if_neg (by decide)]
    refine ⟨f.ne, f.ma, f.mb, fun i v hi q => ?_, fun i v hi q => ?_⟩
    · obtain ⟨u, hu, _⟩ := f.one i v hi q x hx
      exact absurd hu.mem nx
    · obtain ⟨q1, q2⟩ := f.two i v hi q
      have xa : x = a := by
        by_cases e1 : x = a
        · exact e1
        · obtain ⟨u, hu, _⟩ := q1 x hx e1
          exact absurd hu.mem nx
      rcases q2 with q2 | ⟨u, ⟨j, hj⟩, hu⟩
      · obtain ⟨u, j, hj⟩ := one fun l hl hn => by
          obtain ⟨u, hu, _⟩ := q1 l hl (by rw [← xa]; exact hn)
          exact hu.mem
        rw [xa] at hj
        have := h.top j _ hj
        exact ⟨j, u, hj, by rw [q2]; exact this⟩
      · exact ⟨j, u, hj, hu⟩
  · rw [if_neg h2] at o ⊢
    obtain ⟨e, f⟩ := o
    refine ⟨e, ?_⟩
    rw [if_neg (by decide)]
    have hc : c = [x] := by
      match c, hx, h2 with
      | [y], hx, _ => rw [List.mem_singleton.mp hx]
      | _ :: _ :: _, _, h2 => simp at h2
    rw [if_pos rfl] at f
    have d0 := f (by rw [hc]; simp)
    obtain ⟨u, j, hj⟩ := one fun l hl hn => by
      rw [hc] at hl
      exact absurd (List.mem_singleton.mp hl) hn
    have := h.top j _ hj
    have u0 : u = 0 := by have : u ≤ d := this; omega
    exact ⟨x, hc, j, by rw [← u0]; exact hj⟩
end WA

namespace WA
/-! a visit: the literal x is false by the k-th row -/
theorem Half.less {t : Tr} {k k' : Nat} {x y : Int} (h : Half t k x y) (hk : k' ≤ k) : Half t k' x y := fun i v hi e => h i v (by omega) e
theorem WI.less {t : Tr} {k k' : Nat} {c : List Int} {a b : Int} (h : WI t k c a b) (hk : k' ≤ k) : WI t k' c a b := ⟨h.ne, h.ma, h.mb, h.ab.less hk, h.ba.less hk⟩
theorem One.less {t : Tr} {d k k' : Nat} {c w : List Int} (h : One t d k c false w) (hk : k' ≤ k) : One t d k' c false w := by
  unfold One at h ⊢
  by_cases h2 : 2 ≤ c.length
  · rw [if_pos h2] at h ⊢
    obtain ⟨a, b, e, h⟩ := h
    rw [if_neg (by decide)] at h
    refine ⟨a, b, e, ?_⟩
    rw [if_neg (by decide)]
    exact h.less hk
  · rw [if_neg h2] at h ⊢
    exact h
theorem One.wi {t : Tr} {d k : Nat} {c w : List Int} (h : One t d k c false w) (h2 : 2 ≤ c.length) : ∃ a b, w = [a, b] ∧ WI t k c a b := by
  unfold One at h
  rw [if_pos h2] at h
  exact h
theorem One.of {t : Tr} {d k : Nat} {c : List Int} {a b : Int} (h : WI t k c a b) (h2 : 2 ≤ c.length) : One t d k c false [a, b] := by
  unfold One
  rw [if_pos h2]
  exact ⟨a, b, rfl, h⟩
theorem WI.next {t : Tr} {k v : Nat} {c : List Int} {a b x : Int} (h : WI t k c a b) (hx : t[k]? = some (-x, v)) (ha : x ≠ a) (hb : x ≠ b) : WI t (k + 1) c a b := by
  refine ⟨h.ne, h.ma, h.mb, h.ab.next fun u e => ?_, h.ba.next fun u e => ?_⟩
  · rw [hx] at e
    have := (Prod.mk.inj (Option.some.inj e)).1
    exact ha (by omega)
  · rw [hx] at e
    have := (Prod.mk.inj (Option.some.inj e)).1
    exact hb (by omega)
theorem WI.stay {t : Tr} {d k v : Nat} {c : List Int} {x y : Int} (T : TI t d k) (h : WI t k c x y) (hx : t[k]? = some (-x, v)) (hy : y ∈ lits t) : WI t (k + 1) c x y := by
  obtain ⟨u, j, hj⟩ := At.of hy
  have hv : v = d := T.unv k _ (Nat.le_refl _) hx
  have hu : u ≤ d := T.top j _ hj
  refine ⟨h.ne, h.ma, h.mb, h.ab.here hx hj (by omega), h.ba.next fun u e => ?_⟩
  rw [hx] at e
  have := (Prod.mk.inj (Option.some.inj e)).1
  exact h.ne (by omega)
theorem WI.move {t : Tr} {d k v : Nat} {c : List Int} {x y z : Int} (T : TI t d k) (h : WI t k c x y) (hx : t[k]? = some (-x, v)) (x0 : x ≠ 0) (zc : z ∈ c) (zx : z ≠ x) (zy : z ≠ y) (nz : -z ∉ lits t) : WI t (k + 1) c y z := by
  have mx : -x ∈ lits t := At.mem ⟨k, hx⟩
  refine ⟨zy.symm, h.mb, zc, fun i u hi e => ?_, Half.open' nz⟩
  by_cases hik : i = k
  · rw [hik, hx] at e
    have := (Prod.mk.inj (Option.some.inj e)).1
    exact absurd (show x = y by omega) h.ne
  · obtain ⟨j, u2, hj, _⟩ := h.ba i u (by omega) e
    exact (T.con x0 (At.mem ⟨j, hj⟩) mx).elim
theorem WI.force {t : Tr} {d k v : Nat} {c : List Int} {x y : Int} (T : TI t d k) (h : WI t k c x y) (hx : t[k]? = some (-x, v)) (ny : -y ∉ lits t) : WI (t ++ [(y, d)]) (k + 1) c x y := by
  have hk := (List.getElem?_eq_some_iff.mp hx).1
  refine ⟨h.ne, h.ma, h.mb, fun i u hi e => ?_, fun i u hi e => ?_⟩
  · rw [List.getElem?_append_left (by omega)] at e
    by_cases hik : i = k
    · rw [hik] at e
      have hv : u = d := T.unv k _ (Nat.le_refl _) e
      exact ⟨t.length, d, by simp, by omega⟩
    · obtain ⟨j, u2, hj, hu⟩ := h.ab i u (by omega) e
      exact ⟨j, u2, by rw [List.getElem?_append_left (List.getElem?_eq_some_iff.mp hj).1]; exact hj, hu⟩
  · rw [List.getElem?_append_left (by omega)] at e
    exact absurd (At.mem ⟨i, e⟩) ny
/-- who watches l -/
def Wat (cs wp : List (List Int)) (n : Nat) (l : Int) : Prop := ∃ c w, cs[n]? = some c ∧ wp[n]? = some w ∧ 2 ≤ c.length ∧ l ∈ w
/-- all clauses; the n-th one looks at the first kk n rows -/
structure CI (t : Tr) (d : Nat) (kk : Nat → Nat) (cs wp : List (List Int)) (fg : Nat → Bool) (fr : List Nat) (wt : Int → List Nat) : Prop where
  wl : wp.length = cs.length
  one : ∀ n c w, cs[n]? = some c → wp[n]? = some w → fg n = false → One t d (kk n) c (decide (n ∈ fr)) w
  cnt : ∀ l n, fg n = false → (Wat cs wp n l → (wt l).count n = 1) ∧ (¬ Wat cs wp n l → (wt l).count n = 0)
/-- the middle of a visit: N the list of x, behind p of it -/
structure VI (t : Tr) (d k : Nat) (x : Int) (N stay : List Nat) (p : Nat) (cs wp : List (List Int)) (fg : Nat → Bool) (wt : Int → List Nat) : Prop where
  ti : TI t d k
  row : ∃ v, t[k]? = some (-x, v)
  ci : CI t d (fun n => if n ∈ N.drop p then k else k + 1) cs wp fg [] (fun l => if l = x then stay ++ N.drop p else wt l)
theorem vi_start {t : Tr} {d k : Nat} {x : Int} {cs wp : List (List Int)} {fg : Nat → Bool} {wt : Int → List Nat} (T : TI t d k) (hr : ∃ v, t[k]? = some (-x, v)) (C : CI t d (fun _ => k) cs wp fg [] wt) : VI t d k x (wt x) [] 0 cs wp fg wt := by
  refine ⟨T, hr, C.wl, fun n c w hc hw hf => ?_, fun l n hf => ?_⟩
  · have o := C.one n c w hc hw hf
    by_cases hn : n ∈ wt x
    · show One t d (if n ∈ (wt x).drop 0 then k else k + 1) c _ w
      rw [List.drop_zero, if_pos hn]
      exact o
    · show One t d (if n ∈ (wt x).drop 0 then k else k + 1) c _ w
      rw [List.drop_zero, if_neg hn]
      rw [show decide (n ∈ ([] : List Nat)) = false by simp] at o ⊢
      by_cases h2 : 2 ≤ c.length
      · obtain ⟨a, b, e, h⟩ := o.wi h2
        subst e
        have nw : ¬ Wat cs wp n x := fun z => by
          have := (C.cnt x n hf).1 z
          rw [List.count_eq_zero.mpr hn] at this
          cases this
        obtain ⟨v, hv⟩ := hr
        exact .of (h.next hv (fun z => nw ⟨c, _, hc, hw, h2, by rw [z]; simp⟩) fun z => nw ⟨c, _, hc, hw, h2, by rw [z]; simp⟩) h2
      · unfold One at o ⊢
        rw [if_neg h2] at o ⊢
        exact o
  · show (Wat cs wp n l → (if l = x then [] ++ (wt x).drop 0 else wt l).count n = 1) ∧ (¬ Wat cs wp n l → (if l = x then [] ++ (wt x).drop 0 else wt l).count n = 0)
    have e : (if l = x then [] ++ (wt x).drop 0 else wt l) = wt l := by
      by_cases h : l = x
      · rw [if_pos h, h]; simp
      · rw [if_neg h]
    rw [e]
    exact C.cnt l n hf
/-- the number at hand -/
theorem vi_at {t : Tr} {d k : Nat} {x : Int} {N stay : List Nat} {p n : Nat} {cs wp : List (List Int)} {fg : Nat → Bool} {wt : Int → List Nat} (V : VI t d k x N stay p cs wp fg wt) (hn : N[p]? = some n) (hf : fg n = false) :
    ∃ c a b, cs[n]? = some c ∧ wp[n]? = some [a, b] ∧ 2 ≤ c.length ∧ n ∉ stay ∧ n ∉ N.drop (p + 1) ∧ ((x = a ∧ WI t k c x b) ∨ (x = b ∧ x ≠ a ∧ WI t k c x a)) := by
  have hp := (List.getElem?_eq_some_iff.mp hn).1
  have ed : N.drop p = n :: N.drop (p + 1) := by
    rw [List.drop_eq_getElem_cons hp]
    congr 1
    exact (List.getElem?_eq_some_iff.mp hn).2
  have hcnt := V.ci.cnt x n hf
  try dsimp only at hcnt
  rw [if_pos rfl, ed, List.count_append, List.count_cons_self] at hcnt
  by_cases w : Wat cs wp n x
  · have c1 := hcnt.1 w
    obtain ⟨c, w', hc, hw, h2, hx⟩ := w
    have o := V.ci.one n c w' hc hw hf
    try dsimp only at o
    rw [if_pos (by rw [ed]; exact List.mem_cons_self), show decide (n ∈ ([] : List Nat)) = false by simp] at o
    obtain ⟨a, b, e, h⟩ := o.wi h2
    subst e
    refine ⟨c, a, b, hc, hw, h2, fun z => ?_, fun z => ?_, ?_⟩
    · have := List.count_pos_iff.mpr z
      omega
    · have := List.count_pos_iff.mpr z
      omega
    · by_cases e : x = a
      · exact .inl ⟨e, by rw [e]; exact h⟩
      · have e2 : x = b := by simpa [e] using hx
        exact .inr ⟨e2, e, by rw [e2]; exact h.swap⟩
  · have := hcnt.2 w
    omega
theorem vi_drop {N : List Nat} {p n : Nat} (hn : N[p]? = some n) : N.drop p = n :: N.drop (p + 1) := by
  have hp := (List.getElem?_eq_some_iff.mp hn).1
  rw [List.drop_eq_getElem_cons hp]
  congr 1
  exact (List.getElem?_eq_some_iff.mp hn).2
/-- a forgotten one is left out -/
theorem vi_forgot {t : Tr} {d k : Nat} {x : Int} {N stay : List Nat} {p n : Nat} {cs wp : List (List Int)} {fg : Nat → Bool} {wt : Int → List Nat} (V : VI t d k x N stay p cs wp fg wt) (hn : N[p]? = some n) (hf : fg n = true) : VI t d k x N stay (p + 1) cs wp fg wt := by
  have ed := vi_drop hn
  refine ⟨V.ti, V.row, V.ci.wl, fun m c w hc hw hm => ?_, fun l m hm => ?_⟩
  · have ne : m ≠ n := fun z => by rw [z, hf] at hm; cases hm
    have o := V.ci.one m c w hc hw hm
    try dsimp only at o ⊢
    rw [ed] at o
    simpa [ne] using o
  · have ne : m ≠ n := fun z => by rw [z, hf] at hm; cases hm
    have q := V.ci.cnt l m hm
    try dsimp only at q ⊢
    by_cases e : l = x
    · rw [if_pos e, ed, List.count_append, List.count_cons_of_ne ne.symm, ← List.count_append] at q
      rw [if_pos e]
      exact q
    · rw [if_neg e] at q ⊢
      exact q
/-- one stays: its pair looks at one row more -/
theorem vi_stay {t : Tr} {d k : Nat} {x : Int} {N stay : List Nat} {p n : Nat} {cs wp : List (List Int)} {fg : Nat → Bool} {wt : Int → List Nat} (V : VI t d k x N stay p cs wp fg wt) (hn : N[p]? = some n) (more : Tr) (T : TI (t ++ more) d k)
    (hone : ∀ c w, cs[n]? = some c → wp[n]? = some w → fg n = false → One (t ++ more) d (k + 1) c false w) : VI (t ++ more) d k x N (stay ++ [n]) (p + 1) cs wp fg wt := by
  have ed := vi_drop hn
  obtain ⟨v, hv⟩ := V.row
  have hk := (List.getElem?_eq_some_iff.mp hv).1
  refine ⟨T, ⟨v, by rw [List.getElem?_append_left hk]; exact hv⟩, V.ci.wl, fun m c w hc hw hm => ?_, fun l m hm => ?_⟩
  · try dsimp only
    rw [show decide (m ∈ ([] : List Nat)) = false by simp]
    by_cases ne : m = n
    · subst ne
      have o := hone c w hc hw hm
      split
      · exact o.less (Nat.le_succ _)
      · exact o
    · have o := V.ci.one m c w hc hw hm
      try dsimp only at o
      rw [ed, show decide (m ∈ ([] : List Nat)) = false by simp] at o
      have o2 := o.grow (n := more) (by split <;> omega)
      simpa [ne] using o2
  · have q := V.ci.cnt l m hm
    try dsimp only at q ⊢
    by_cases e : l = x
    · rw [if_pos e, ed] at q
      rw [if_pos e, List.append_assoc]
      exact q
    · rw [if_neg e] at q ⊢
      exact q
/-- one moves to the literal z -/
theorem vi_move {t : Tr} {d k : Nat} {x y z : Int} {N stay : List Nat} {p n : Nat} {cs wp : List (List Int)} {fg : Nat → Bool} {wt : Int → List Nat} {c : List Int} {a b : Int} (V : VI t d k x N stay p cs wp fg wt) (hn : N[p]? = some n) (hf : fg n = false)
    (hc : cs[n]? = some c) (hw : wp[n]? = some [a, b]) (h2 : 2 ≤ c.length) (ns : n ∉ stay) (nd : n ∉ N.drop (p + 1)) (hab : (x = a ∧ y = b) ∨ (x = b ∧ y = a)) (zx : z ≠ x) (zy : z ≠ y) (xy : x ≠ y) (hone : WI t (k + 1) c y z) :
    VI t d k x N stay (p + 1) cs (wp.set n [y, z]) fg (fun l => if l = z then wt z ++ [n] else wt l) := by
  have ed := vi_drop hn
  have hnl := (List.getElem?_eq_some_iff.mp hw).1
  have wn : (wp.set n [y, z])[n]? = some [y, z] := by rw [List.getElem?_set_self hnl]
  have wo : ∀ m, m ≠ n → (wp.set n [y, z])[m]? = wp[m]? := fun m h => by rw [List.getElem?_set_ne (Ne.symm h)]
  refine ⟨V.ti, V.row, by rw [List.length_set]; exact V.ci.wl, fun m c' w hc' hw' hm => ?_, fun l m hm => ?_⟩
  · try dsimp only
    rw [show decide (m ∈ ([] : List Nat)) = false by simp]
    by_cases ne : m = n
    · subst ne
      rw [wn] at hw'
      obtain rfl := Option.some.inj hw'
      rw [hc] at hc'
      obtain rfl := Option.some.inj hc'
      rw [if_neg nd]
      exact .of hone h2
    · rw [wo m ne] at hw'
      have o := V.ci.one m c' w hc' hw' hm
      try dsimp only at o
      rw [ed, show decide (m ∈ ([] : List Nat)) = false by simp] at o
      simpa [ne] using o
  · have q := V.ci.cnt l m hm
    try dsimp only at q ⊢
    by_cases ne : m = n
    · subst ne
      have wat : Wat cs (wp.set m [y, z]) m l ↔ l = y ∨ l = z := by
        constructor
        · rintro ⟨c1, w1, e1, e2, _, e3⟩
          rw [wn] at e2
          obtain rfl := Option.some.inj e2
          simpa using e3
        · intro h
          exact ⟨c, [y, z], hc, wn, h2, by simpa using h⟩
      have old : Wat cs wp m l ↔ l = x ∨ l = y := by
        constructor
        · rintro ⟨c1, w1, e1, e2, _, e3⟩
          rw [hw] at e2
          obtain rfl := Option.some.inj e2
          rcases hab with ⟨h3, h4⟩ | ⟨h3, h4⟩
          · rw [h3, h4]; simpa using e3
          · rw [h3, h4]
            have : l = a ∨ l = b := by simpa using e3
            exact this.symm
        · intro h
          refine ⟨c, [a, b], hc, hw, h2, ?_⟩
          rcases hab with ⟨h3, h4⟩ | ⟨h3, h4⟩
          · rw [← h3, ← h4]; simpa using h
          · rw [← h3, ← h4]
            simpa using h.symm
      rw [wat]
      rw [old] at q
      by_cases e : l = x
      · rw [if_pos e]
        have : (stay ++ N.drop (p + 1)).count m = 0 := by
          rw [List.count_append, List.count_eq_zero.mpr ns, List.count_eq_zero.mpr nd]
        refine ⟨fun h => ?_, fun _ => this⟩
        rcases h with h | h
        · exact absurd (e.symm.trans h) xy
        · exact absurd (h.symm.trans e) zx
      · rw [if_neg e] at q ⊢
        by_cases e2 : l = z
        · rw [if_pos e2, List.count_append, List.count_singleton_self]
          have h0 : (wt z).count m = 0 := by
            rw [← e2]
            refine q.2 fun h => ?_
            rcases h with h | h
            · exact e h
            · exact zy (e2.symm.trans h)
          exact ⟨fun _ => by omega, fun h => absurd (.inr e2) h⟩
        · rw [if_neg e2]
          refine ⟨fun h => q.1 ?_, fun h => q.2 fun h3 => h ?_⟩
          · rcases h with h | h
            · exact .inr h
            · exact absurd h e2
          · rcases h3 with h3 | h3
            · exact absurd h3 e
            · exact .inl h3
    · have wat : Wat cs (wp.set n [y, z]) m l ↔ Wat cs wp m l := by
        unfold Wat
        rw [wo m ne]
      rw [wat]
      by_cases e : l = x
      · rw [if_pos e, ed, List.count_append, List.count_cons_of_ne (Ne.symm ne), ← List.count_append] at q
        rw [if_pos e]
        exact q
      · rw [if_neg e] at q ⊢
        by_cases e2 : l = z
        · rw [if_pos e2, List.count_append, List.count_singleton, if_neg (by simpa using Ne.symm ne), Nat.add_zero]
          rw [e2] at q ⊢
          exact q
        · rw [if_neg e2]
          exact q
/-- the end of a visit -/
theorem vi_end {t : Tr} {d k : Nat} {x : Int} {N stay : List Nat} {p : Nat} {cs wp : List (List Int)} {fg : Nat → Bool} {wt : Int → List Nat} (V : VI t d k x N stay p cs wp fg wt) (hp : N.length ≤ p) : CI t d (fun _ => k + 1) cs wp fg [] (fun l => if l = x then stay ++ N.drop p else wt l) := by
  refine ⟨V.ci.wl, fun n c w hc hw hf => ?_, V.ci.cnt⟩
  have o := V.ci.one n c w hc hw hf
  try dsimp only at o
  rw [List.drop_of_length_le hp, if_neg (by simp)] at o
  exact o
theorem vi_clash {t : Tr} {d k : Nat} {x : Int} {N stay : List Nat} {p : Nat} {cs wp : List (List Int)} {fg : Nat → Bool} {wt : Int → List Nat} (V : VI t d k x N stay p cs wp fg wt) : CI t d (fun _ => k) cs wp fg [] (fun l => if l = x then stay ++ N.drop p else wt l) := by
  refine ⟨V.ci.wl, fun n c w hc hw hf => ?_, V.ci.cnt⟩
  have o := V.ci.one n c w hc hw hf
  try dsimp only at o ⊢
  rw [show decide (n ∈ ([] : List Nat)) = false by simp] at o ⊢
  exact o.less (by split <;> omega)
end WA

namespace L
open PySem PySem.Spec PyProof.Rows L2 Z M MR
/-! the watcher's objects, what its deeds leave -/
def IsMu : HO → Prop
  | .lst _ => True
  | .dK _ => True
  | .ins _ _ _ => True
  | _ => False
def AllMu (S : List Addr) (H : Hp) : Prop := ∀ b ∈ S, ∃ x, H b = some x ∧ IsMu x
theorem ne_of_ne {H : Hp} {a b : Addr} {x y : HO} (h1 : H a = some x) (h2 : H b = some y) (h : x ≠ y) : a ≠ b := fun e => by
  subst e
  rw [h1] at h2
  exact h (Option.some.inj h2)
abbrev Tb := List (Addr × Str)
/-- all but S stays, what is new was free; tables may grow -/
structure DX (T : Tb) (S S' : List Addr) (H H' : Hp) : Prop where
  kp : ∀ b x, b ∉ S → (∀ ps, x ≠ .tbl ps) → H b = some x → H' b = some x
  nw : ∀ b ∈ S', b ∈ S ∨ ∀ x, H b = some x → ∃ ps, x = .tbl ps
  tb : LamX.Tabs T H → LamX.Tabs T H'
theorem DX.refl {T : Tb} (S : List Addr) (H : Hp) : DX T S S H H := ⟨fun _ _ _ _ e => e, fun _ h => .inl h, fun h => h⟩
theorem DX.trans {T : Tb} {S S1 S2 : List Addr} {H H1 H2 : Hp} (a : DX T S S1 H H1) (b : DX T S1 S2 H1 H2) : DX T S S2 H H2 := by
  refine ⟨fun c x n nt e => ?_, fun c hc => ?_, fun h => b.tb (a.tb h)⟩
  · refine b.kp c x (fun z => ?_) nt (a.kp c x n nt e)
    rcases a.nw c z with q | q
    · exact n q
    · obtain ⟨ps, hps⟩ := q x e
      exact nt ps hps
  · rcases b.nw c hc with q | q
    · exact a.nw c q
    · by_cases n : c ∈ S
      · exact .inl n
      · refine .inr fun x e => ?_
        cases x with
        | tbl ps => exact ⟨ps, rfl⟩
        | _ => exact q _ (a.kp c _ n (fun ps z => by cases z) e)
theorem tabs_upd {T : Tb} {H : Hp} {b : Addr} {x u : HO} (e : H b = some x) (m : IsMu x) (t : LamX.Tabs T H) : LamX.Tabs T (upd H b u) := fun p hp => by
  obtain ⟨ps, h1, h2, h3⟩ := t p hp
  refine ⟨ps, (upd_ne (ne_of_ne h1 e fun z => by rw [← z] at m; exact m)).trans h1, h2, fun pos cv hc => ?_⟩
  obtain ⟨c, e1, e2⟩ := h3 pos cv hc
  refine ⟨c, e1, (upd_ne (ne_of_ne e2 e fun z => ?_)).trans e2⟩
  rw [← z] at m
  exact m
theorem DX.put {T : Tb} {S S' : List Addr} {H H1 : Hp} (a : DX T S S' H H1) {b : Addr} {x u : HO} (hb : b ∈ S) (e : H1 b = some x) (m : IsMu x) : DX T S S' H (upd H1 b u) :=
  ⟨fun c y n nt h => by rw [upd_ne (fun z => n (by rw [z]; exact hb))]; exact a.kp c y n nt h, a.nw, fun h => tabs_upd e m (a.tb h)⟩
/-- an object of S' changes -/
theorem DX.put' {T : Tb} {S S' : List Addr} {H H1 : Hp} (a : DX T S S' H H1) {b : Addr} {x u : HO} (hb : b ∈ S') (e : H1 b = some x) (m : IsMu x) : DX T S S' H (upd H1 b u) :=
  a.trans ((DX.refl S' H1).put hb e m)
theorem DX.new {T : Tb} {S S' : List Addr} {H H1 : Hp} (a : DX T S S' H H1) {p : Addr} {u : HO} (hp : H1 p = none) : DX T S (p :: S') H (upd H1 p u) := by
  refine a.trans ⟨fun c y n nt h => upd_of hp h, fun c hc => ?_, fun h => h.ext fun b o e => upd_of hp e⟩
  rcases List.mem_cons.mp hc with rfl | hc
  · exact .inr fun x e => by rw [hp] at e; cases e
  · exact .inl hc
theorem DX.sub {T : Tb} {S S' S'' : List Addr} {H H1 : Hp} (a : DX T S S' H H1) (h : ∀ b ∈ S'', b ∈ S') : DX T S S'' H H1 := ⟨a.kp, fun b hb => a.nw b (h b hb), a.tb⟩
theorem DX.sup {T : Tb} {S S' S'' : List Addr} {H H1 : Hp} (a : DX T S S' H H1) (h : ∀ b ∈ S, b ∈ S'') : DX T S'' S' H H1 := ⟨fun b x n nt e => a.kp b x (fun z => n (h b z)) nt e, fun b hb => (a.nw b hb).imp (h b) id, a.tb⟩
theorem DX.same {T : Tb} {S S' : List Addr} {H H1 H2 : Hp} (a : DX T S S' H H1) (s : Same H1 H2) : DX T S S' H H2 :=
  a.trans ⟨fun _ _ _ _ e => s _ _ e, fun _ h => .inl h, fun h => h.ext s⟩
theorem DX.new0 {T : Tb} {S S' : List Addr} {H H1 : Hp} (a : DX T S S' H H1) {p : Addr} {u : HO} (hp : H1 p = none) : DX T S S' H (upd H1 p u) := a.same (same_of (Same.refl _) hp)
theorem sqT_dx {T : Tb} {K : PySem.W.Frag} {S S' : List Addr} {H H' : Hp} (d : DX T S S' H H') (m : AllMu S H) {a : Addr} {xs : List V} (h : SqT K H a xs) : SqT K H' a xs := by
  have no : ∀ {b : Addr} {x : HO}, H b = some x → ¬ IsMu x → b ∉ S := fun {b x} e n z => by
    obtain ⟨y, e2, m2⟩ := m b z
    rw [e] at e2
    exact n (Option.some.inj e2 ▸ m2)
  rcases h with (h | ⟨o, h⟩) | h
  · exact .inl (.inl (d.kp _ _ (no h id) (fun _ z => by cases z) h))
  · exact .inl (.inr ⟨o, d.kp _ _ (no h id) (fun _ z => by cases z) h⟩)
  · exact .inr h
structure WR where
  dx : Addr
  lc : Addr
  ls : Addr
  lw : Addr
  dw : Addr
  df : Addr
  lf : Addr
  wl : List (Int × Addr)
structure WD where
  cs : List (Addr × List Int)
  so : List Int
  wp : List (List Int)
  fg : List Bool
  fr : List Nat
  sn : Nat
  wt : Int → List Nat
def WR.fs (R : WR) (tr : Addr) (sn : Nat) : List (Str × V) := [("_trail", .ref tr), ("_clauses", .ref R.lc), ("_sources", .ref R.ls), ("_watched", .ref R.lw), ("_watchers", .ref R.dw), ("_forgotten", .ref R.df), ("_fresh", .ref R.lf), ("_seen", .int (sn : Int))]
def wkv (wl : List (Int × Addr)) : List (Key × V) := wl.map fun p => (Sum.inl p.1, V.ref p.2)
structure WAt (K : PySem.W.Frag) (C : Addr) (H : Hp) (o tr : Addr) (R : WR) (D : WD) : Prop where
  obj : H o = some (.ins C R.dx (R.fs tr D.sn))
  cl : H R.lc = some (.lst (D.cs.map fun c => V.ref c.1))
  ct : ∀ c ∈ D.cs, SqT K H c.1 (c.2.map V.int)
  so : H R.ls = some (.lst (D.so.map V.int))
  wa : ∃ wt : List Addr, H R.lw = some (.lst (wt.map V.ref)) ∧ wt.length = D.wp.length ∧ ∀ (n : Nat) (a : Addr) (ws : List Int), wt[n]? = some a → D.wp[n]? = some ws → SqT K H a (ws.map V.int)
  dw : H R.dw = some (.dK (wkv R.wl))
  wl : ∀ p ∈ R.wl, H p.2 = some (.lst (nV (D.wt p.1)))
  wn : ∀ l, l ∉ R.wl.map (·.1) → D.wt l = []
  wk : (R.wl.map (·.1)).Nodup
  df : ∃ kf, H R.df = some (.dK kf) ∧ kf.length ≤ D.fg.count true ∧ ∀ n : Nat, (valV kf (Sum.inl (n : Int))).isSome = D.fg.getD n false
  fr : H R.lf = some (.lst (nV D.fr))
  dd : R.dw ≠ R.df
  nd : ([R.lc, R.ls, R.lw, R.lf] ++ R.wl.map (·.2)).Nodup
def wmut (o : Addr) (R : WR) : List Addr := [o, R.lc, R.ls, R.lw, R.dw, R.df, R.lf] ++ R.wl.map (·.2)
theorem WAt.mu {K : PySem.W.Frag} {C : Addr} {H : Hp} {o tr : Addr} {R : WR} {D : WD} (h : WAt K C H o tr R D) : AllMu (wmut o R) H := fun b hb => by
  rcases List.mem_append.mp hb with hb | hb
  · simp only [List.mem_cons, List.not_mem_nil, or_false] at hb
    obtain ⟨wt, hw, _⟩ := h.wa
    obtain ⟨kf, hf, _⟩ := h.df
    rcases hb with rfl | rfl | rfl | rfl | rfl | rfl | rfl
    · exact ⟨_, h.obj, trivial⟩
    · exact ⟨_, h.cl, trivial⟩
    · exact ⟨_, h.so, trivial⟩
    · exact ⟨_, hw, trivial⟩
    · exact ⟨_, h.dw, trivial⟩
    · exact ⟨_, hf, trivial⟩
    · exact ⟨_, h.fr, trivial⟩
  · obtain ⟨p, hp, rfl⟩ := List.mem_map.mp hb
    exact ⟨_, h.wl p hp, trivial⟩
/-- nothing of it has changed -/
theorem WAt.at' {K : PySem.W.Frag} {C : Addr} {H H' : Hp} {o tr : Addr} {R : WR} {D : WD} (h : WAt K C H o tr R D) (e : ∀ b x, b ∈ wmut o R → H b = some x → H' b = some x) (tp : ∀ a xs, SqT K H a xs → SqT K H' a xs) : WAt K C H' o tr R D := by
  obtain ⟨wt, hw, h1, h2⟩ := h.wa
  obtain ⟨kf, hf, h3, h4⟩ := h.df
  have m : ∀ b, b ∈ [o, R.lc, R.ls, R.lw, R.dw, R.df, R.lf] → b ∈ wmut o R := fun b hb => List.mem_append_left _ hb
  exact ⟨e _ _ (m _ (by simp)) h.obj, e _ _ (m _ (by simp)) h.cl, fun c hc => tp _ _ (h.ct c hc), e _ _ (m _ (by simp)) h.so, ⟨wt, e _ _ (m _ (by simp)) hw, h1, fun n a ws e1 e2 => tp _ _ (h2 n a ws e1 e2)⟩,
    e _ _ (m _ (by simp)) h.dw, fun p hp => e _ _ (List.mem_append_right _ (List.mem_map.mpr ⟨p, hp, rfl⟩)) (h.wl p hp), h.wn, h.wk, ⟨kf, e _ _ (m _ (by simp)) hf, h3, h4⟩, e _ _ (m _ (by simp)) h.fr, h.dd, h.nd⟩
/-- which addresses are apart -/
structure WNe (o : Addr) (R : WR) : Prop where
  cs : R.lc ≠ R.ls
  cw : R.lc ≠ R.lw
  cf : R.lc ≠ R.lf
  sw : R.ls ≠ R.lw
  sf : R.ls ≠ R.lf
  wf : R.lw ≠ R.lf
  oc : o ≠ R.lc
  os : o ≠ R.ls
  ow : o ≠ R.lw
  of' : o ≠ R.lf
  od : o ≠ R.dw
  oe : o ≠ R.df
  dc : R.dw ≠ R.lc
  ds : R.dw ≠ R.ls
  dw : R.dw ≠ R.lw
  df : R.dw ≠ R.lf
  de : R.dw ≠ R.df
  ec : R.df ≠ R.lc
  es : R.df ≠ R.ls
  ew : R.df ≠ R.lw
  ef : R.df ≠ R.lf
  wl : ∀ p ∈ R.wl, p.2 ≠ o ∧ p.2 ≠ R.lc ∧ p.2 ≠ R.ls ∧ p.2 ≠ R.lw ∧ p.2 ≠ R.lf ∧ p.2 ≠ R.dw ∧ p.2 ≠ R.df
theorem WAt.ne {K : PySem.W.Frag} {C : Addr} {H : Hp} {o tr : Addr} {R : WR} {D : WD} (h : WAt K C H o tr R D) : WNe o R := by
  obtain ⟨wt, hw, _⟩ := h.wa
  obtain ⟨kf, hf, _⟩ := h.df
  have nd := h.nd
  rw [List.nodup_append] at nd
  obtain ⟨n1, _, n3⟩ := nd
  simp only [List.nodup_cons, List.mem_cons, List.not_mem_nil, or_false, not_or, not_false_eq_true, List.nodup_nil, and_true] at n1
  obtain ⟨⟨a1, a2, a3⟩, ⟨a4, a5⟩, a6⟩ := n1
  have c : ∀ {a b : Addr} {x y : HO}, H a = some x → H b = some y → x ≠ y → a ≠ b := fun h1 h2 h => ne_of_ne h1 h2 h
  refine ⟨a1, a2, a3, a4, a5, a6, c h.obj h.cl (by simp), c h.obj h.so (by simp), c h.obj hw (by simp), c h.obj h.fr (by simp), c h.obj h.dw (by simp), c h.obj hf (by simp), c h.dw h.cl (by simp), c h.dw h.so (by simp), c h.dw hw (by simp), c h.dw h.fr (by simp), h.dd,
    c hf h.cl (by simp), c hf h.so (by simp), c hf hw (by simp), c hf h.fr (by simp), fun p hp => ?_⟩
  have hp2 : p.2 ∈ R.wl.map (·.2) := List.mem_map.mpr ⟨p, hp, rfl⟩
  have n : ∀ b ∈ [R.lc, R.ls, R.lw, R.lf], p.2 ≠ b := fun b hb z => n3 b hb _ hp2 z.symm
  exact ⟨c (h.wl p hp) h.obj (by simp), n _ (by simp), n _ (by simp), n _ (by simp), n _ (by simp), c (h.wl p hp) h.dw (by simp), c (h.wl p hp) hf (by simp)⟩
theorem WAt.tup {K : PySem.W.Frag} {C : Addr} {H : Hp} {o tr : Addr} {R : WR} {D : WD} (h : WAt K C H o tr R D) {b : Addr} {u : HO} (hb : b ∈ wmut o R) {a : Addr} {xs : List V} (s : SqT K H a xs) : SqT K (upd H b u) a xs := by
  obtain ⟨x, e, m⟩ := h.mu b hb
  rcases s with (s | ⟨ob, s⟩) | s
  · exact .inl (.inl ((upd_ne (ne_of_ne s e fun z => by rw [← z] at m; exact m)).trans s))
  · exact .inl (.inr ⟨ob, (upd_ne (ne_of_ne s e fun z => by rw [← z] at m; exact m)).trans s⟩)
  · exact .inr s
theorem sqT_new {K : PySem.W.Frag} {H : Hp} {b a : Addr} {u : HO} {xs : List V} (hb : H b = none) (s : SqT K H a xs) : SqT K (upd H b u) a xs := Evl.ex_t (same_of (Same.refl H) hb) s
end L

namespace L
open PySem PySem.Spec PyProof.Rows L2 Z M MR
theorem WL.inj {wl : List (Int × Addr)} (nd : (wl.map (·.1)).Nodup) {p q : Int × Addr} (hp : p ∈ wl) (hq : q ∈ wl) (e : p.1 = q.1) : p = q := by
  induction wl with
  | nil => cases hp
  | cons a wl ih =>
    rw [List.map_cons, List.nodup_cons] at nd
    rcases List.mem_cons.mp hp with e1 | hp1 <;> rcases List.mem_cons.mp hq with e2 | hq1
    · rw [e1, e2]
    · exact absurd (List.mem_map.mpr ⟨q, hq1, by rw [← e, e1]⟩) nd.1
    · exact absurd (List.mem_map.mpr ⟨p, hp1, by rw [e, e2]⟩) nd.1
    · exact ih nd.2 hp1 hq1
theorem WL.inj2 {wl : List (Int × Addr)} (nd : (wl.map (·.2)).Nodup) {p q : Int × Addr} (hp : p ∈ wl) (hq : q ∈ wl) (e : p.2 = q.2) : p = q := by
  induction wl with
  | nil => cases hp
  | cons a wl ih =>
    rw [List.map_cons, List.nodup_cons] at nd
    rcases List.mem_cons.mp hp with e1 | hp1 <;> rcases List.mem_cons.mp hq with e2 | hq1
    · rw [e1, e2]
    · exact absurd (List.mem_map.mpr ⟨q, hq1, by rw [← e, e1]⟩) nd.1
    · exact absurd (List.mem_map.mpr ⟨p, hp1, by rw [e, e2]⟩) nd.1
    · exact ih nd.2 hp1 hq1
section
variable {K : PySem.W.Frag} {C : Addr} {H : Hp} {o tr : Addr} {R : WR} {D : WD}
/-- tells a place of a heap with one change -/
theorem upd_keep {H : Hp} {a b : Addr} {u x : HO} (n : a ≠ b) (e : H a = some x) : upd H b u a = some x := (upd_ne n).trans e
theorem WAt.setC (h : WAt K C H o tr R D) (c : Addr × List Int) (hc : SqT K H c.1 (c.2.map V.int)) : WAt K C (upd H R.lc (.lst ((D.cs.map fun c => V.ref c.1) ++ [.ref c.1]))) o tr R { D with cs := D.cs ++ [c] } := by
  have n := h.ne
  obtain ⟨wt, hw, h1, h2⟩ := h.wa
  obtain ⟨kf, hf, h3, h4⟩ := h.df
  have mb : R.lc ∈ wmut o R := List.mem_append_left _ (by simp)
  refine ⟨upd_keep n.oc h.obj, ?_, fun d hd => ?_, upd_keep n.cs.symm h.so, ⟨wt, upd_keep n.cw.symm hw, h1, fun i a ws e1 e2 => h.tup mb (h2 i a ws e1 e2)⟩, upd_keep n.dc h.dw, fun p hp => upd_keep (n.wl p hp).2.1 (h.wl p hp), h.wn, h.wk, ⟨kf, upd_keep n.ec hf, h3, h4⟩, upd_keep n.cf.symm h.fr, h.dd, h.nd⟩
  · rw [upd_same]
    show _ = some (HO.lst ((D.cs ++ [c]).map fun c => V.ref c.1))
    rw [List.map_append]
    rfl
  · rcases List.mem_append.mp hd with hd | hd
    · exact h.tup mb (h.ct d hd)
    · rw [List.mem_singleton.mp hd]
      exact h.tup mb hc
theorem WAt.setS (h : WAt K C H o tr R D) (s : Int) : WAt K C (upd H R.ls (.lst (D.so.map V.int ++ [.int s]))) o tr R { D with so := D.so ++ [s] } := by
  have n := h.ne
  obtain ⟨wt, hw, h1, h2⟩ := h.wa
  obtain ⟨kf, hf, h3, h4⟩ := h.df
  have mb : R.ls ∈ wmut o R := List.mem_append_left _ (by simp)
  refine ⟨upd_keep n.os h.obj, upd_keep n.cs h.cl, fun d hd => h.tup mb (h.ct d hd), ?_, ⟨wt, upd_keep n.sw.symm hw, h1, fun i a ws e1 e2 => h.tup mb (h2 i a ws e1 e2)⟩, upd_keep n.ds h.dw, fun p hp => upd_keep (n.wl p hp).2.2.1 (h.wl p hp), h.wn, h.wk, ⟨kf, upd_keep n.es hf, h3, h4⟩, upd_keep n.sf.symm h.fr, h.dd, h.nd⟩
  rw [upd_same]
  show _ = some (HO.lst ((D.so ++ [s]).map V.int))
  rw [List.map_append]
  rfl
theorem WAt.setW (h : WAt K C H o tr R D) {wt : List Addr} (hw : H R.lw = some (.lst (wt.map V.ref))) (hl : wt.length = D.wp.length) (wt' : List Addr) (wp' : List (List Int)) (hl' : wt'.length = wp'.length)
    (hs : ∀ (n : Nat) (a : Addr) (ws : List Int), wt'[n]? = some a → wp'[n]? = some ws → SqT K H a (ws.map V.int)) : WAt K C (upd H R.lw (.lst (wt'.map V.ref))) o tr R { D with wp := wp' } := by
  have n := h.ne
  obtain ⟨kf, hf, h3, h4⟩ := h.df
  have mb : R.lw ∈ wmut o R := List.mem_append_left _ (by simp)
  exact ⟨upd_keep n.ow h.obj, upd_keep n.cw h.cl, fun d hd => h.tup mb (h.ct d hd), upd_keep n.sw h.so, ⟨wt', upd_same, hl', fun i a ws e1 e2 => h.tup mb (hs i a ws e1 e2)⟩, upd_keep n.dw h.dw, fun p hp => upd_keep (n.wl p hp).2.2.2.1 (h.wl p hp), h.wn, h.wk, ⟨kf, upd_keep n.ew hf, h3, h4⟩, upd_keep n.wf.symm h.fr, h.dd, h.nd⟩
theorem WAt.setF (h : WAt K C H o tr R D) (fr' : List Nat) : WAt K C (upd H R.lf (.lst (nV fr'))) o tr R { D with fr := fr' } := by
  have n := h.ne
  obtain ⟨wt, hw, h1, h2⟩ := h.wa
  obtain ⟨kf, hf, h3, h4⟩ := h.df
  have mb : R.lf ∈ wmut o R := List.mem_append_left _ (by simp)
  exact ⟨upd_keep n.of' h.obj, upd_keep n.cf h.cl, fun d hd => h.tup mb (h.ct d hd), upd_keep n.sf h.so, ⟨wt, upd_keep n.wf hw, h1, fun i a ws e1 e2 => h.tup mb (h2 i a ws e1 e2)⟩, upd_keep n.df h.dw, fun p hp => upd_keep (n.wl p hp).2.2.2.2.1 (h.wl p hp), h.wn, h.wk, ⟨kf, upd_keep n.ef hf, h3, h4⟩, upd_same, h.dd, h.nd⟩
/-- the list of one literal changes -/
theorem WAt.setL (h : WAt K C H o tr R D) {p : Int × Addr} (hp : p ∈ R.wl) (ns : List Nat) : WAt K C (upd H p.2 (.lst (nV ns))) o tr R { D with wt := fun l => if l = p.1 then ns else D.wt l } := by
  have n := h.ne
  obtain ⟨wt, hw, h1, h2⟩ := h.wa
  obtain ⟨kf, hf, h3, h4⟩ := h.df
  have mb : p.2 ∈ wmut o R := List.mem_append_right _ (List.mem_map.mpr ⟨p, hp, rfl⟩)
  obtain ⟨q1, q2, q3, q4, q5, q6, q7⟩ := n.wl p hp
  refine ⟨upd_keep q1.symm h.obj, upd_keep q2.symm h.cl, fun d hd => h.tup mb (h.ct d hd), upd_keep q3.symm h.so, ⟨wt, upd_keep q4.symm hw, h1, fun i a ws e1 e2 => h.tup mb (h2 i a ws e1 e2)⟩, upd_keep q6.symm h.dw, fun q hq => ?_, fun l hl => ?_, h.wk, ⟨kf, upd_keep q7.symm hf, h3, h4⟩, upd_keep q5.symm h.fr, h.dd, h.nd⟩
  · show upd H p.2 _ q.2 = some (HO.lst (nV (if q.1 = p.1 then ns else D.wt q.1)))
    by_cases e : q = p
    · rw [e, upd_same, if_pos rfl]
    · have nd2 : (R.wl.map (·.2)).Nodup := (List.nodup_append.mp h.nd).2.1
      have e1 : q.1 ≠ p.1 := fun z => e (WL.inj h.wk hq hp z)
      have e2 : q.2 ≠ p.2 := fun z => e (WL.inj2 nd2 hq hp z)
      rw [upd_ne e2, if_neg e1]
      exact h.wl q hq
  · show (if l = p.1 then ns else D.wt l) = []
    rw [if_neg (fun z => hl (by rw [z]; exact List.mem_map.mpr ⟨p, hp, rfl⟩))]
    exact h.wn l hl
/-- the ticket -/
theorem WAt.setN (h : WAt K C H o tr R D) (s : Nat) : WAt K C (upd H o (.ins C R.dx (R.fs tr s))) o tr R { D with sn := s } := by
  have n := h.ne
  obtain ⟨wt, hw, h1, h2⟩ := h.wa
  obtain ⟨kf, hf, h3, h4⟩ := h.df
  have mb : o ∈ wmut o R := List.mem_append_left _ (by simp)
  exact ⟨upd_same, upd_keep n.oc.symm h.cl, fun d hd => h.tup mb (h.ct d hd), upd_keep n.os.symm h.so, ⟨wt, upd_keep n.ow.symm hw, h1, fun i a ws e1 e2 => h.tup mb (h2 i a ws e1 e2)⟩, upd_keep n.od.symm h.dw, fun p hp => upd_keep (n.wl p hp).1 (h.wl p hp), h.wn, h.wk, ⟨kf, upd_keep n.oe.symm hf, h3, h4⟩, upd_keep n.of'.symm h.fr, h.dd, h.nd⟩
/-- one more is forgotten -/
theorem WAt.setG (h : WAt K C H o tr R D) {kf : List (Key × V)} (hf : H R.df = some (.dK kf)) {k : Nat} (hk : k < D.fg.length) (hg : D.fg.getD k false = false) (v : V) (hkf : kf.length ≤ D.fg.count true) (hv : ∀ n : Nat, (valV kf (Sum.inl (n : Int))).isSome = D.fg.getD n false) :
    WAt K C (upd H R.df (.dK (putK kf (Sum.inl (k : Int)) v))) o tr R { D with fg := D.fg.set k true } := by
  have n := h.ne
  obtain ⟨wt, hw, h1, h2⟩ := h.wa
  have mb : R.df ∈ wmut o R := List.mem_append_left _ (by simp)
  refine ⟨upd_keep n.oe h.obj, upd_keep n.ec.symm h.cl, fun d hd => h.tup mb (h.ct d hd), upd_keep n.es.symm h.so, ⟨wt, upd_keep n.ew.symm hw, h1, fun i a ws e1 e2 => h.tup mb (h2 i a ws e1 e2)⟩, upd_keep n.de h.dw, fun p hp => upd_keep (n.wl p hp).2.2.2.2.2.2 (h.wl p hp), h.wn, h.wk, ⟨_, upd_same, ?_, fun m => ?_⟩, upd_keep n.ef.symm h.fr, h.dd, h.nd⟩
  · have l1 := length_putK kf (Sum.inl (k : Int)) v
    have hgk : D.fg[k] = false := by
      rw [List.getD_eq_getElem?_getD, List.getElem?_eq_getElem hk] at hg
      exact hg
    have l2 : (D.fg.set k true).count true = D.fg.count true + 1 := by
      rw [List.count_set hk, hgk]
      simp
    show _ ≤ (D.fg.set k true).count true
    rw [l2]
    omega
  · show _ = (D.fg.set k true).getD m false
    rw [valV_put]
    by_cases e : m = k
    · subst e
      rw [if_pos rfl, List.getD_eq_getElem?_getD, List.getElem?_set_self hk]
      rfl
    · rw [if_neg (fun z => e (by have := Sum.inl.inj z; omega)), hv m, List.getD_eq_getElem?_getD, List.getD_eq_getElem?_getD, List.getElem?_set_ne (Ne.symm e)]
/-- the fresh ones lie in a new list -/
theorem WAt.newF (h : WAt K C H o tr R D) {q : Addr} (fr' : List Nat) (e : H q = some (.lst (nV fr'))) (hq : q ∉ wmut o R) : WAt K C (upd H o (.ins C R.dx (WR.fs { R with lf := q } tr D.sn))) o tr { R with lf := q } { D with fr := fr' } := by
  have n := h.ne
  obtain ⟨wt, hw, h1, h2⟩ := h.wa
  obtain ⟨kf, hf, h3, h4⟩ := h.df
  have mb : o ∈ wmut o R := List.mem_append_left _ (by simp)
  have no : q ≠ o := fun z => hq (by rw [z]; exact mb)
  refine ⟨upd_same, upd_keep n.oc.symm h.cl, fun d hd => h.tup mb (h.ct d hd), upd_keep n.os.symm h.so, ⟨wt, upd_keep n.ow.symm hw, h1, fun i a ws e1 e2 => h.tup mb (h2 i a ws e1 e2)⟩, upd_keep n.od.symm h.dw, fun p hp => upd_keep (n.wl p hp).1 (h.wl p hp), h.wn, h.wk, ⟨kf, upd_keep n.oe.symm hf, h3, h4⟩, upd_keep no e, h.dd, ?_⟩
  have nd := h.nd
  have hq2 : ∀ b ∈ [R.lc, R.ls, R.lw] ++ R.wl.map (·.2), q ≠ b := fun b hb z => by
    refine hq ?_
    rw [z]
    rcases List.mem_append.mp hb with hb | hb
    · refine List.mem_append_left _ ?_
      simp only [List.mem_cons, List.not_mem_nil, or_false] at hb ⊢
      rcases hb with rfl | rfl | rfl <;> simp
    · exact List.mem_append_right _ hb
  rw [List.nodup_append] at nd ⊢
  obtain ⟨n1, n2, n3⟩ := nd
  refine ⟨?_, n2, fun a ha b hb z => ?_⟩
  · simp only [List.nodup_cons, List.mem_cons, List.not_mem_nil, or_false, not_or, not_false_eq_true, List.nodup_nil, and_true]
    exact ⟨⟨n.cs, n.cw, (hq2 _ (by simp)).symm⟩, ⟨n.sw, (hq2 _ (by simp)).symm⟩, (hq2 _ (by simp)).symm⟩
  · have ha : a = R.lc ∨ a = R.ls ∨ a = R.lw ∨ a = q := by simpa using ha
    rcases ha with ha | ha | ha | ha
    · exact n3 a (by rw [ha]; simp) b hb z
    · exact n3 a (by rw [ha]; simp) b hb z
    · exact n3 a (by rw [ha]; simp) b hb z
    · exact hq2 b (List.mem_append_right _ hb) (by rw [← ha, z])
theorem wkv_val : ∀ (wl : List (Int × Addr)) (l : Int), valV (wkv wl) (Sum.inl l) = (wl.lookup l).map V.ref
  | [], l => rfl
  | p :: wl, l => by
    show valV ((Sum.inl p.1, V.ref p.2) :: wkv wl) (Sum.inl l) = _
    by_cases h : p.1 = l
    · rw [valV_pos (p := (Sum.inl p.1, V.ref p.2)) (by rw [h]), List.lookup_cons, show (l == p.1) = true by simp [h]]
      rfl
    · rw [valV_neg (p := (Sum.inl p.1, V.ref p.2)) (fun z => h (Sum.inl.inj z)), wkv_val wl l, List.lookup_cons, show (l == p.1) = false by simpa using Ne.symm h]
theorem wl_none {wl : List (Int × Addr)} {l : Int} (h : l ∉ wl.map (·.1)) : wl.lookup l = none := by
  induction wl with
  | nil => rfl
  | cons q wl ih =>
    rw [List.map_cons, List.mem_cons, not_or] at h
    rw [List.lookup_cons, show (l == q.1) = false by simpa using h.1]
    exact ih h.2
theorem wkv_rep (wl : List (Int × Addr)) (l : Int) (q : Addr) (h : l ∈ wl.map (·.1)) (nd : (wl.map (·.1)).Nodup) : putK (wkv wl) (Sum.inl l) (V.ref q) = wkv (wl.map fun p => if p.1 = l then (l, q) else p) := by
  have ha : ((wkv wl).any fun kv => decide (kv.1 = (Sum.inl l : Key))) = true := by
    obtain ⟨p, hp, e⟩ := List.mem_map.mp h
    rw [List.any_eq_true]
    exact ⟨(Sum.inl p.1, V.ref p.2), List.mem_map.mpr ⟨p, hp, rfl⟩, decide_eq_true (by rw [e])⟩
  unfold putK
  rw [if_pos ha]
  unfold wkv
  rw [List.map_map, List.map_map]
  refine List.map_congr_left fun p _ => ?_
  show (if (Sum.inl p.1 : Key) = Sum.inl l then ((Sum.inl p.1 : Key), V.ref q) else (Sum.inl p.1, V.ref p.2)) = ((Sum.inl (if p.1 = l then (l, q) else p).1 : Key), V.ref (if p.1 = l then (l, q) else p).2)
  by_cases e : p.1 = l
  · rw [if_pos e, if_pos (by rw [e]), e]
  · rw [if_neg e, if_neg (fun z => e (Sum.inl.inj z))]
theorem wkv_put : ∀ (wl : List (Int × Addr)) (l : Int) (q : Addr), l ∉ wl.map (·.1) → putK (wkv wl) (Sum.inl l) (V.ref q) = wkv (wl ++ [(l, q)]) := fun wl l q h => by
  have e : valV (wkv wl) (Sum.inl l) = none := by
    rw [wkv_val]
    rw [wl_none h]
    rfl
  rw [putK_new _ e]
  unfold wkv
  rw [List.map_append]
  rfl
theorem wl_look {wl : List (Int × Addr)} (nd : (wl.map (·.1)).Nodup) {p : Int × Addr} (hp : p ∈ wl) : wl.lookup p.1 = some p.2 := by
  induction wl with
  | nil => cases hp
  | cons q wl ih =>
    rw [List.map_cons, List.nodup_cons] at nd
    rw [List.lookup_cons]
    rcases List.mem_cons.mp hp with rfl | hp
    · simp
    · have : p.1 ≠ q.1 := fun z => nd.1 (by rw [← z]; exact List.mem_map.mpr ⟨p, hp, rfl⟩)
      rw [show (p.1 == q.1) = false by simpa using this]
      exact ih nd.2 hp
/-- a literal that had no list gets a new one -/
theorem WAt.addL (h : WAt K C H o tr R D) {l : Int} {q : Addr} (hl : l ∉ R.wl.map (·.1)) (ns : List Nat) (e : H q = some (.lst (nV ns))) (hq : q ∉ wmut o R) :
    WAt K C (upd H R.dw (.dK (putK (wkv R.wl) (Sum.inl l) (V.ref q)))) o tr { R with wl := R.wl ++ [(l, q)] } { D with wt := fun x => if x = l then ns else D.wt x } := by
  have n := h.ne
  obtain ⟨wt, hw, h1, h2⟩ := h.wa
  obtain ⟨kf, hf, h3, h4⟩ := h.df
  have mb : R.dw ∈ wmut o R := List.mem_append_left _ (by simp)
  have nq : q ≠ R.dw := fun z => hq (by rw [z]; exact mb)
  rw [wkv_put _ _ _ hl]
  refine ⟨upd_keep n.od h.obj, upd_keep n.dc.symm h.cl, fun d hd => h.tup mb (h.ct d hd), upd_keep n.ds.symm h.so, ⟨wt, upd_keep n.dw.symm hw, h1, fun i a ws e1 e2 => h.tup mb (h2 i a ws e1 e2)⟩, upd_same, fun p hp => ?_, fun x hx => ?_, ?_, ⟨kf, upd_keep n.de.symm hf, h3, h4⟩, upd_keep n.df.symm h.fr, h.dd, ?_⟩
  · show upd H R.dw _ p.2 = some (HO.lst (nV (if p.1 = l then ns else D.wt p.1)))
    rcases List.mem_append.mp hp with hp | hp
    · rw [if_neg (fun z => hl (by rw [← z]; exact List.mem_map.mpr ⟨p, hp, rfl⟩))]
      exact upd_keep (n.wl p hp).2.2.2.2.2.1 (h.wl p hp)
    · rw [List.mem_singleton.mp hp, if_pos rfl]
      exact upd_keep nq e
  · show (if x = l then ns else D.wt x) = []
    have hx2 : x ∉ R.wl.map (·.1) ∧ x ≠ l := by
      rw [List.map_append, List.mem_append, not_or] at hx
      exact ⟨hx.1, by simpa using hx.2⟩
    rw [if_neg hx2.2]
    exact h.wn x hx2.1
  · show ((R.wl ++ [(l, q)]).map (·.1)).Nodup
    rw [List.map_append, List.nodup_append]
    refine ⟨h.wk, by simp, fun a ha b hb z => ?_⟩
    have : b = l := by simpa using hb
    exact hl (by rw [← this, ← z]; exact ha)
  · show ([R.lc, R.ls, R.lw, R.lf] ++ (R.wl ++ [(l, q)]).map (·.2)).Nodup
    rw [List.map_append, ← List.append_assoc, List.nodup_append]
    refine ⟨h.nd, by simp, fun a ha b hb z => ?_⟩
    have hb : b = q := by simpa using hb
    refine hq ?_
    rw [← hb, ← z]
    rcases List.mem_append.mp ha with ha | ha
    · refine List.mem_append_left _ ?_
      simp only [List.mem_cons, List.not_mem_nil, or_false] at ha ⊢
      rcases ha with rfl | rfl | rfl | rfl <;> simp
    · exact List.mem_append_right _ ha
/-- a literal's list is another one now -/
theorem WAt.repL (h : WAt K C H o tr R D) {l : Int} {q : Addr} (hl : l ∈ R.wl.map (·.1)) (ns : List Nat) (e : H q = some (.lst (nV ns))) (hq : q ∉ wmut o R) :
    WAt K C (upd H R.dw (.dK (putK (wkv R.wl) (Sum.inl l) (V.ref q)))) o tr { R with wl := R.wl.map fun p => if p.1 = l then (l, q) else p } { D with wt := fun x => if x = l then ns else D.wt x } := by
  have n := h.ne
  obtain ⟨wt, hw, h1, h2⟩ := h.wa
  obtain ⟨kf, hf, h3, h4⟩ := h.df
  have mb : R.dw ∈ wmut o R := List.mem_append_left _ (by simp)
  have nq : q ≠ R.dw := fun z => hq (by rw [z]; exact mb)
  have ek : (R.wl.map fun p => if p.1 = l then (l, q) else p).map (·.1) = R.wl.map (·.1) := by
    rw [List.map_map]
    refine List.map_congr_left fun p _ => ?_
    show (if p.1 = l then (l, q) else p).1 = p.1
    by_cases e : p.1 = l
    · rw [if_pos e, e]
    · rw [if_neg e]
  have mem : ∀ p ∈ R.wl.map (fun p => if p.1 = l then (l, q) else p), p = (l, q) ∨ (p ∈ R.wl ∧ p.1 ≠ l) := fun p hp => by
    obtain ⟨p0, hp0, rfl⟩ := List.mem_map.mp hp
    by_cases e : p0.1 = l
    · exact .inl (if_pos e)
    · rw [if_neg e]
      exact .inr ⟨hp0, e⟩
  rw [wkv_rep _ _ _ hl h.wk]
  refine ⟨upd_keep n.od h.obj, upd_keep n.dc.symm h.cl, fun d hd => h.tup mb (h.ct d hd), upd_keep n.ds.symm h.so, ⟨wt, upd_keep n.dw.symm hw, h1, fun i a ws e1 e2 => h.tup mb (h2 i a ws e1 e2)⟩, upd_same, fun p hp => ?_, fun x hx => ?_, ?_, ⟨kf, upd_keep n.de.symm hf, h3, h4⟩, upd_keep n.df.symm h.fr, h.dd, ?_⟩
  · show upd H R.dw _ p.2 = some (HO.lst (nV (if p.1 = l then ns else D.wt p.1)))
    rcases mem p hp with rfl | ⟨hp, hpl⟩
    · rw [if_pos rfl]
      exact upd_keep nq e
    · rw [if_neg hpl]
      exact upd_keep (n.wl p hp).2.2.2.2.2.1 (h.wl p hp)
  · show (if x = l then ns else D.wt x) = []
    have hx2 : x ∉ R.wl.map (·.1) := by
      rw [← ek]
      exact hx
    rw [if_neg (fun z => hx2 (by rw [z]; exact hl))]
    exact h.wn x hx2
  · show ((R.wl.map fun p => if p.1 = l then (l, q) else p).map (·.1)).Nodup
    rw [ek]
    exact h.wk
  · show ([R.lc, R.ls, R.lw, R.lf] ++ (R.wl.map fun p => if p.1 = l then (l, q) else p).map (·.2)).Nodup
    have nd := h.nd
    rw [List.nodup_append] at nd ⊢
    obtain ⟨n1, n2, n3⟩ := nd
    have nqs : ∀ b ∈ [R.lc, R.ls, R.lw, R.lf], b ≠ q := fun b hb z => by
      refine hq ?_
      rw [← z]
      refine List.mem_append_left _ ?_
      simp only [List.mem_cons, List.not_mem_nil, or_false] at hb ⊢
      rcases hb with rfl | rfl | rfl | rfl <;> simp
    refine ⟨n1, ?_, fun a ha b hb z => ?_⟩
    · rw [List.map_map, List.nodup_iff_pairwise_ne, List.pairwise_map]
      rw [List.nodup_iff_pairwise_ne, List.pairwise_map] at n2
      have wk := h.wk
      rw [List.nodup_iff_pairwise_ne, List.pairwise_map] at wk
      refine (n2.and wk).imp_of_mem (fun {a b} ha hb hab => ?_)
      show (if a.1 = l then (l, q) else a).2 ≠ (if b.1 = l then (l, q) else b).2
      by_cases e1 : a.1 = l
      · have e2 : b.1 ≠ l := fun z => hab.2 (e1.trans z.symm)
        rw [if_pos e1, if_neg e2]
        exact fun z => hq (by rw [show q = b.2 from z]; exact List.mem_append_right _ (List.mem_map.mpr ⟨b, hb, rfl⟩))
      · rw [if_neg e1]
        by_cases e2 : b.1 = l
        · rw [if_pos e2]
          exact fun z => hq (by rw [show q = a.2 from z.symm]; exact List.mem_append_right _ (List.mem_map.mpr ⟨a, ha, rfl⟩))
        · rw [if_neg e2]
          exact hab.1
    · obtain ⟨p, hp, rfl⟩ := List.mem_map.mp hb
      rcases mem p hp with rfl | ⟨hp, _⟩
      · exact nqs a ha z
      · exact n3 a ha p.2 (List.mem_map.mpr ⟨p, hp, rfl⟩) z
end
end L

namespace WA
/-! the watchers' lists: no number twice, all are clauses -/
def LI (m : Nat) (wt : Int → List Nat) : Prop := ∀ l, (wt l).Nodup ∧ ∀ n ∈ wt l, n < m
theorem sub_len {α : Type} [DecidableEq α] : ∀ {xs ys : List α}, xs.Nodup → (∀ a ∈ xs, a ∈ ys) → xs.length ≤ ys.length
  | [], ys, _, _ => Nat.zero_le _
  | x :: xs, ys, nd, h => by
    rw [List.nodup_cons] at nd
    have hx := h x List.mem_cons_self
    have q := sub_len (xs := xs) (ys := ys.erase x) nd.2 fun a ha => (List.mem_erase_of_ne (fun z => nd.1 (by rw [← z]; exact ha))).mpr (h a (List.mem_cons_of_mem _ ha))
    rw [List.length_erase_of_mem hx] at q
    have := List.length_pos_of_mem hx
    rw [List.length_cons]
    omega
theorem nodup_len {m : Nat} {xs : List Nat} (h : xs.Nodup) (hm : ∀ n ∈ xs, n < m) : xs.length ≤ m := by
  have h2 : xs.length ≤ (List.range m).length := sub_len h fun a ha => List.mem_range.mpr (hm a ha)
  rwa [List.length_range] at h2
theorem LI.len {m : Nat} {wt : Int → List Nat} (h : LI m wt) (l : Int) : (wt l).length ≤ m := nodup_len (h l).1 (h l).2
theorem li_start {m : Nat} {wt : Int → List Nat} {x : Int} (h : LI m wt) : LI m (fun l => if l = x then [] ++ (wt x).drop 0 else wt l) := fun l => by
  dsimp only
  have e : (if l = x then [] ++ (wt x).drop 0 else wt l) = wt l := by
    by_cases h : l = x
    · rw [if_pos h, h]; simp
    · rw [if_neg h]
  rw [e]
  exact h l
theorem li_forgot {m : Nat} {wt : Int → List Nat} {x : Int} {N stay : List Nat} {p n : Nat} (hn : N[p]? = some n) (h : LI m (fun l => if l = x then stay ++ N.drop p else wt l)) : LI m (fun l => if l = x then stay ++ N.drop (p + 1) else wt l) := fun l => by
  have q := h l
  dsimp only at q ⊢
  by_cases e : l = x
  · rw [if_pos e, vi_drop hn] at q
    rw [if_pos e]
    have s : (stay ++ N.drop (p + 1)).Sublist (stay ++ n :: N.drop (p + 1)) := (List.Sublist.refl _).append (List.sublist_cons_self _ _)
    exact ⟨q.1.sublist s, fun a ha => q.2 a (s.subset ha)⟩
  · rw [if_neg e] at q ⊢
    exact q
theorem li_stay {m : Nat} {wt : Int → List Nat} {x : Int} {N stay : List Nat} {p n : Nat} (hn : N[p]? = some n) (h : LI m (fun l => if l = x then stay ++ N.drop p else wt l)) : LI m (fun l => if l = x then (stay ++ [n]) ++ N.drop (p + 1) else wt l) := fun l => by
  have q := h l
  dsimp only at q ⊢
  by_cases e : l = x
  · rw [if_pos e, vi_drop hn] at q
    rw [if_pos e, List.append_assoc]
    exact q
  · rw [if_neg e] at q ⊢
    exact q
theorem li_move {m : Nat} {wt : Int → List Nat} {x z : Int} {N stay : List Nat} {p n : Nat} (hn : N[p]? = some n) (h : LI m (fun l => if l = x then stay ++ N.drop p else wt l)) (zx : z ≠ x) (nz : n ∉ wt z) (hm : n < m) : LI m (fun l => if l = x then stay ++ N.drop (p + 1) else if l = z then wt z ++ [n] else wt l) := fun l => by
  have q := li_forgot hn h l
  have q2 := h z
  dsimp only at q q2 ⊢
  rw [if_neg zx] at q2
  by_cases e : l = x
  · rw [if_pos e] at q ⊢
    exact q
  · rw [if_neg e] at q ⊢
    by_cases e2 : l = z
    · rw [if_pos e2]
      refine ⟨?_, fun a ha => ?_⟩
      · rw [List.nodup_append]
        exact ⟨q2.1, by simp, fun a ha b hb z2 => nz (by rw [← List.mem_singleton.mp hb, ← z2]; exact ha)⟩
      · rcases List.mem_append.mp ha with ha | ha
        · exact q2.2 a ha
        · rw [List.mem_singleton.mp ha]; exact hm
    · rw [if_neg e2]
      exact q
end WA
namespace L
open PySem PySem.Spec PyProof.Rows L2 Z M MR
theorem zip_take {α β : Type} : ∀ (xs : List α) (ys : List β) (n : Nat), (xs.zip ys).take n = (xs.take n).zip (ys.take n)
  | [], ys, n => by simp
  | x :: xs, [], n => by simp
  | x :: xs, y :: ys, 0 => by simp
  | x :: xs, y :: ys, n + 1 => by
    rw [List.zip_cons_cons, List.take_succ_cons, List.take_succ_cons, List.take_succ_cons, List.zip_cons_cons, zip_take xs ys n]
/-- rows with their levels -/
def tl (rs : List TRow) : WA.Tr := (lits rs).zip (levs rs)
theorem lits_len (rs : List TRow) : (lits rs).length = rs.length := List.length_map _
theorem tl_len (rs : List TRow) : (tl rs).length = rs.length := by
  unfold tl
  rw [List.length_zip, lits_len, levs_len, Nat.min_self]
theorem tl_lits (rs : List TRow) : WA.lits (tl rs) = lits rs := by
  unfold WA.lits tl
  rw [List.map_fst_zip]
  rw [lits_len, levs_len]
  exact Nat.le_refl _
theorem tl_snoc (rs : List TRow) (r : TRow) : tl (rs ++ [r]) = tl rs ++ [(r.1, dep (rs ++ [r]))] := by
  unfold tl
  rw [levs_snoc, show lits (rs ++ [r]) = lits rs ++ [r.1] by unfold lits; rw [List.map_append]; rfl, List.zip_append (by rw [lits_len, levs_len])]
  rfl
theorem tl_take (rs : List TRow) (n : Nat) : tl (rs.take n) = (tl rs).take n := by
  unfold tl
  rw [take_levs, show lits (rs.take n) = (lits rs).take n by unfold lits; rw [List.map_take]]
  exact (zip_take _ _ n).symm
theorem tl_at {rs : List TRow} {i : Nat} {p : Int × Nat} : (tl rs)[i]? = some p ↔ (lits rs)[i]? = some p.1 ∧ (levs rs)[i]? = some p.2 := by
  unfold tl
  rw [List.getElem?_zip_eq_some]
theorem tl_back (rs : List TRow) (L : Nat) (i : Nat) (p : Int × Nat) (h : (tl rs)[i]? = some p) : i < ed rs (L + 1) ↔ p.2 ≤ L := by
  obtain ⟨_, h2⟩ := tl_at.mp h
  obtain ⟨h3, h4⟩ := levs_at h2
  rw [h4]
  exact (key rs L i h3).symm
theorem dep_take_min (rs : List TRow) (L : Nat) : dep (rs.take (ed rs (L + 1))) = min (dep rs) L := by
  by_cases h : L < dep rs
  · rw [dep_back h]
    omega
  · rw [ed_ge (by omega), List.take_of_length_le (Nat.le_refl _)]
    omega
theorem dep_force (rs : List TRow) (l k : Int) : dep (rs ++ [(l, some k)]) = dep rs := by
  rw [dep_snoc]
  rfl
theorem dep_choose (rs : List TRow) (l : Int) : dep (rs ++ [(l, none)]) = dep rs + 1 := by
  rw [dep_snoc]
  rfl
theorem lits_snoc (rs : List TRow) (r : TRow) : lits (rs ++ [r]) = lits rs ++ [r.1] := by unfold lits; rw [List.map_append]; rfl
end L

namespace L
open PySem PySem.Spec PyProof.Rows L2 Z M MR
/-- the seat's program side: trail, watcher, what they hold -/
structure WS where
  tr : Addr
  o : Addr
  t : TrO
  R : WR
  ns : List Int
  rs : List TRow
  D : WD
def WS.tm (x : WS) : List Addr := [x.tr, x.t.ll, x.t.lv, x.t.lr, x.t.dp, x.t.ls, x.t.lt]
def WS.wm (x : WS) : List Addr := wmut x.o x.R
def WS.mut (x : WS) : List Addr := x.tm ++ x.wm
structure WOk (K : PySem.W.Frag) (CT CW : Addr) (H : Hp) (x : WS) : Prop where
  ta : TrAt CT H x.tr x.t x.ns x.rs
  wa : WAt K CW H x.o x.tr x.R x.D
  sep : ∀ b ∈ x.t.dn :: x.tm, b ∉ x.wm
section
variable {K : PySem.W.Frag} {CT CW : Addr} {H H' : Hp} {x : WS} {T : Tb}
theorem TrAt.mu {C o : Addr} {t : TrO} {ns : List Int} {rs : List TRow} (h : TrAt C H o t ns rs) : AllMu [o, t.ll, t.lv, t.lr, t.dp, t.ls, t.lt] H := fun b hb => by
  simp only [List.mem_cons, List.not_mem_nil, or_false] at hb
  rcases hb with rfl | rfl | rfl | rfl | rfl | rfl | rfl
  · exact ⟨_, h.obj, trivial⟩
  · exact ⟨_, h.li, trivial⟩
  · exact ⟨_, h.le, trivial⟩
  · exact ⟨_, h.re, trivial⟩
  · exact ⟨_, h.pl, trivial⟩
  · exact ⟨_, h.st, trivial⟩
  · exact ⟨_, h.tic.1, trivial⟩
theorem TrAt.at' {C o : Addr} {t : TrO} {ns : List Int} {rs : List TRow} (h : TrAt C H o t ns rs) (e : ∀ b x, b ∈ t.dn :: [o, t.ll, t.lv, t.lr, t.dp, t.ls, t.lt] → H b = some x → H' b = some x) : TrAt C H' o t ns rs := by
  obtain ⟨kn, hk, hv⟩ := h.nd
  exact ⟨e _ _ (by simp) h.obj, ⟨kn, e _ _ (by simp) hk, hv⟩, e _ _ (by simp) h.li, e _ _ (by simp) h.le, e _ _ (by simp) h.re, e _ _ (by simp) h.pl, e _ _ (by simp) h.st, ⟨e _ _ (by simp) h.tic.1, h.tic.2⟩, h.df⟩
theorem WOk.mu (h : WOk K CT CW H x) : AllMu x.mut H := fun b hb => (List.mem_append.mp hb).elim (fun z => h.ta.mu b z) fun z => h.wa.mu b z
theorem WOk.same (h : WOk K CT CW H x) (s : Same H H') : WOk K CT CW H' x := ⟨h.ta.at' fun b y _ e => s _ _ e, h.wa.at' (fun b y _ e => s _ _ e) fun a xs q => Evl.ex_t s q, h.sep⟩
/-- tables may have grown -/
theorem WOk.dx0 {S' : List Addr} (h : WOk K CT CW H x) (d : DX T [] S' H H') : WOk K CT CW H' x := by
  have st : ∀ b y, H b = some y → (∀ ps, y ≠ .tbl ps) → H' b = some y := fun b y e n => d.kp b y (by simp) n e
  have mu : ∀ {b y}, H b = some y → b ∈ x.mut → H' b = some y := fun {b y} e hb => st b y e fun ps z => by
    obtain ⟨y2, e2, m⟩ := h.mu b hb
    rw [e] at e2
    rw [← Option.some.inj e2, z] at m
    exact m
  obtain ⟨kn, hk, _⟩ := h.ta.nd
  refine ⟨h.ta.at' fun b y hb e => ?_, h.wa.at' (fun b y hb e => mu e (List.mem_append_right _ hb)) fun a xs q => sqT_dx d (fun b hb => by cases hb) q, h.sep⟩
  rcases List.mem_cons.mp hb with rfl | hb
  · rw [hk] at e
    exact st _ _ (e ▸ hk) (fun ps z => by rw [z] at e; cases e)
  · exact mu e (List.mem_append_left _ hb)
/-- a deed at the trail -/
theorem WOk.trX (h : WOk K CT CW H x) (d : TrX x.tr x.t H H') {a : List Nat} {b : Nat} {rs' : List TRow} (ta : TrAt CT H' x.tr { x.t with tk := a, nx := b } x.ns rs') : WOk K CT CW H' { x with t := { x.t with tk := a, nx := b }, rs := rs' } := by
  refine ⟨ta, h.wa.at' (fun c y hc e => d c y (fun z => h.sep c (List.mem_cons_of_mem _ z) hc) e) fun c xs q => ?_, h.sep⟩
  have no : ∀ {c : Addr} {y : HO}, H c = some y → ¬ IsMu y → c ∉ x.tm := fun {c y} e n z => by
    obtain ⟨y2, e2, m⟩ := h.ta.mu c z
    rw [e] at e2
    exact n (Option.some.inj e2 ▸ m)
  rcases q with (q | ⟨ob, q⟩) | q
  · exact .inl (.inl (d _ _ (no q id) q))
  · exact .inl (.inr ⟨ob, d _ _ (no q id) q⟩)
  · exact .inr q
theorem WOk.trD (h : WOk K CT CW H x) (d : TrX x.tr x.t H H') : DX T x.mut x.mut H H' := by
  refine ⟨fun b y n _ e => d b y (fun z => n (List.mem_append_left _ z)) e, fun b hb => .inl hb, fun t p hp => ?_⟩
  have no : ∀ {c : Addr} {y : HO}, H c = some y → ¬ IsMu y → c ∉ x.tm := fun {c y} e n z => by
    obtain ⟨y2, e2, m⟩ := h.ta.mu c z
    rw [e] at e2
    exact n (Option.some.inj e2 ▸ m)
  obtain ⟨ps, h1, h2, h3⟩ := t p hp
  refine ⟨ps, d _ _ (no h1 id) h1, h2, fun pos cv hc => ?_⟩
  obtain ⟨c, e1, e2⟩ := h3 pos cv hc
  exact ⟨c, e1, d _ _ (no e2 id) e2⟩
/-- a deed at the watcher: one place is written -/
theorem WOk.put (h : WOk K CT CW H x) {b : Addr} {u : HO} (hb : b ∈ x.wm) {R' : WR} {D' : WD} (wa : WAt K CW (upd H b u) x.o x.tr R' D') (hs : ∀ c ∈ wmut x.o R', c ∈ x.wm ∨ c ∉ x.t.dn :: x.tm) : WOk K CT CW (upd H b u) { x with R := R', D := D' } := by
  refine ⟨h.ta.at' fun c y hc e => (upd_ne (fun z => h.sep c hc (by rw [z]; exact hb))).trans e, wa, fun c hc hc2 => ?_⟩
  rcases hs c hc2 with q | q
  · exact h.sep c hc q
  · exact q hc
theorem WOk.putD (h : WOk K CT CW H x) {b : Addr} {u : HO} (hb : b ∈ x.wm) {R' : WR} {D' : WD} (hs : ∀ c ∈ wmut x.o R', c ∈ x.wm) : DX T x.mut { x with R := R', D := D' }.mut H (upd H b u) := by
  obtain ⟨y, e, m⟩ := h.mu b (List.mem_append_right _ hb)
  refine ((DX.refl x.mut H).put (List.mem_append_right _ hb) e m).sub fun c hc => ?_
  rcases List.mem_append.mp hc with hc | hc
  · exact List.mem_append_left _ hc
  · exact List.mem_append_right _ (hs c hc)
theorem WOk.fresh (h : WOk K CT CW H x) {q : Addr} (hq : H q = none) : q ∉ x.wm ∧ q ∉ x.t.dn :: x.tm := by
  refine ⟨fun z => ?_, fun z => ?_⟩
  · obtain ⟨y, e, _⟩ := h.wa.mu q z
    rw [hq] at e
    cases e
  · rcases List.mem_cons.mp z with z | z
    · obtain ⟨kn, hk, _⟩ := h.ta.nd
      rw [← z, hq] at hk
      cases hk
    · obtain ⟨y, e, _⟩ := h.ta.mu q z
      rw [hq] at e
      cases e
end
/-- what holds of the data; k rows were visited -/
structure WInv (x : WS) (k : Nat) : Prop where
  vis : x.t.tk.countP (fun a => decide (a < x.D.sn)) = k
  sle : x.D.sn ≤ x.t.nx
  ti : WA.TI (tl x.rs) (dep x.rs) k
  lit : ∀ l ∈ lits x.rs, (l.natAbs : Int) ∈ x.ns
  cl : ∀ c ∈ x.D.cs, c.2.Nodup ∧ ∀ l ∈ c.2, (l.natAbs : Int) ∈ x.ns
  nsb : ∀ n ∈ x.ns, 0 < n ∧ n < 10 ^ 9
  nsl : x.ns.length ≤ 50 ∧ x.ns.Nodup
  ci : WA.CI (tl x.rs) (dep x.rs) (fun _ => k) (x.D.cs.map (·.2)) x.D.wp (fun n => x.D.fg.getD n false) x.D.fr x.D.wt
  li : WA.LI x.D.cs.length x.D.wt
  frl : ∀ n ∈ x.D.fr, n < x.D.cs.length
  fln : x.D.fg.length = x.D.cs.length
  cln : x.D.cs.length ≤ 1000
  frn : x.D.fr.length ≤ x.D.cs.length
  son : x.D.so.length ≤ 1000
  key : ∀ p ∈ x.R.wl, (p.1.natAbs : Int) ∈ x.ns
theorem WInv.nz {x : WS} {k : Nat} (h : WInv x k) {l : Int} (hl : (l.natAbs : Int) ∈ x.ns) : l ≠ 0 ∧ l.natAbs < 10 ^ 60 := by
  have := h.nsb _ hl
  omega
theorem WInv.rl {x : WS} {k : Nat} (h : WInv x k) : x.rs.length ≤ 50 := by
  have e : ((lits x.rs).map Int.natAbs).length ≤ (x.ns.map Int.natAbs).length := by
    refine WA.sub_len ?_ fun a ha => ?_
    · have := h.ti.nd
      rwa [tl_lits] at this
    · obtain ⟨l, hl, rfl⟩ := List.mem_map.mp ha
      exact List.mem_map.mpr ⟨_, h.lit l hl, by simp⟩
  rw [List.length_map, List.length_map, lits_len] at e
  have := h.nsl.1
  omega
end L

namespace L
open PySem PySem.Spec PyProof.Rows L2 Z M MR MT X2
open _root_.SX (S S_len S_cat S_inj)
section
variable {P : Program} {w : World} {K : PySem.W.Frag} {mg : Str → Option Value} {base : Heap}
theorem w_methF {C : Addr} {m : Str} {sp : Sp} {E : XK} {te : TE} {ta : TA} {σ : L2.St} {H : Hp} {Q : VK} (h : te σ H fun x H1 => ∃ a dx fs, x = .ref a ∧ H1 a = some (.ins C dx fs) ∧ fs.lookup m = none ∧ ta σ H1 fun vs H2 => sp (x :: (vs ++ [])) H2 Q E) : tMeth C m sp [] E te ta σ H Q := h
/-- the key of a literal -/
def rk2 (t : WA.Tr) (l : Int) : Int × Int := match WA.rkW t l with
  | none => (0, 0)
  | some v => (1, -(v : Int))
theorem val_cases {rs : List TRow} {d k : Nat} (h : WA.TI (tl rs) d k) {l : Int} (h0 : l ≠ 0) :
    (WA.rkW (tl rs) l = none ∧ (val rs l = .non ∨ val rs l = .bl true)) ∨ ∃ v, WA.rkW (tl rs) l = some v ∧ val rs l = .bl false ∧ atP (fun rs => nV (levs rs)) rs l = .int (v : Int) := by
  cases e : WA.rkW (tl rs) l with
  | none =>
    have n := WA.rkW_none e
    rw [tl_lits] at n
    refine .inl ⟨rfl, ?_⟩
    unfold val
    by_cases e1 : l ∈ lits rs
    · rw [if_pos e1]
      exact .inr rfl
    · rw [if_neg e1, if_neg n]
      exact .inl rfl
  | some v =>
    obtain ⟨i, hi⟩ := WA.rkW_some e
    obtain ⟨h1, h2⟩ := tl_at.mp hi
    have m : -l ∈ lits rs := List.mem_of_getElem? h1
    have n : l ∉ lits rs := fun z => h.con h0 (by rw [tl_lits]; exact z) (by rw [tl_lits]; exact m)
    refine .inr ⟨v, rfl, ?_, ?_⟩
    · unfold val
      rw [if_neg n, if_pos m]
    · have nd : (lits rs).Nodup := by
        have q := h.nd
        rw [tl_lits] at q
        exact List.Pairwise.imp_of_mem (R := fun a b => a.natAbs ≠ b.natAbs) (fun _ _ q z => q (by rw [z])) (List.pairwise_map.mp q)
      have ep : plc rs l = some i := by
        rw [plc_not n, List.idxOf?_eq_some_iff]
        obtain ⟨hi2, hi3⟩ := List.getElem?_eq_some_iff.mp h1
        refine ⟨hi2, hi3, fun j hj z => ?_⟩
        have : (lits rs)[j]? = some (-l) := by rw [List.getElem?_eq_getElem (by omega), z]
        have := (List.getElem?_inj (by omega) nd).mp (this.trans h1.symm)
        omega
      unfold atP
      rw [ep]
      show (nV (levs rs)).getD i .non = _
      unfold nV
      rw [List.getD_eq_getElem?_getD, List.getElem?_map, h2]
      rfl
def spRank (K : PySem.W.Frag) (CT CW : Addr) : Sp := fun vs H Q _ => ∃ (x : WS) (k : Nat) (l : Int), vs = [.ref x.o, .int l] ∧ WOk K CT CW H x ∧ WInv x k ∧ (l.natAbs : Int) ∈ x.ns ∧
  ∀ p, H p = none → Q (.ref p) (upd H p (.tup [.int (rk2 (tl x.rs) l).1, .int (rk2 (tl x.rs) l).2]))
theorem ok_rank (T : Txt K mg) : FnOk P w K mg base CX0 6 T.f_Watching_rank T.fd_Watching_rank ["self", "literal"] (spRank K T.C_Trail T.C_Watching) := by
  have G_Trail_value := ok_value (P := P) (w := w) (base := base) T
  have G_Trail_level_of := ok_level (P := P) (w := w) (base := base) T
  refine T.F_Watching_rank.ok sc_Watching_rank (fun vs H Q E h => ?_) (fun cdv A outer s H vs Q E hr h => ?_)
  · obtain ⟨x, k, l, rfl, _⟩ := h
    rfl
  · obtain ⟨x, k, l, rfl, ok, inv, hl, h⟩ := h
    obtain ⟨l0, lb⟩ := inv.nz hl
    have rl := inv.rl
    refine ⟨_, (pss_cons (ps_if (pt_cmpR LK.op_isNotF (pe_meth (pe_fld (pv 0) rfl) T.cl_Trail T.M_Trail_value G_Trail_value (hr.mono (by first | decide | omega)) T.b_Trail_value .nil X2.passN (pa_cons (pv 1) pa_nil)) pe_bl rfl) (pss_one (ps_ret (pe_tup (pa_cons pe_int (pa_cons pe_int pa_nil))))) pss_nil)
 (pss_one (ps_ret (pe_tup (pa_cons pe_int (pa_cons (pe_un un_neg (pe_meth (pe_fld (pv 0) rfl) T.cl_Trail T.M_Trail_level_of G_Trail_level_of (hr.mono (by first | decide | omega)) T.b_Trail_level_of .nil X2.passN (pa_cons (pv 1) pa_nil))) pa_nil)))))), ?_⟩
    refine Z.w_start (σ' := [some (.ref x.o), some (.int l)]) rfl ?_
    walk_at "w"
    refine w_methF ?_
    refine w_fldT T.cl_Watching T.n_Watching__trail ok.wa.obj rfl ?_
    refine ⟨x.tr, x.t.dx, _, rfl, ok.ta.obj, by rfl, ?_⟩
    walk_at "w"
    refine ⟨x.tr, x.t, x.ns, x.rs, l, rfl, ok.ta, lb, by omega, fun _ => ?_, fun z => absurd hl z⟩
    walk_at "w"
    rcases val_cases inv.ti l0 with ⟨e, hv⟩ | ⟨v, e, hv, ha⟩
    · have hq := h
      unfold rk2 at hq
      rw [e] at hq
      rcases hv with hv | hv
      · refine .inl ⟨hv, ?_⟩
        walk_at "w"
        exact hq _ (by assumption)
      · refine .inr ⟨true, hv, ?_⟩
        walk_at "w"
        exact hq _ (by assumption)
    · have hq := h
      unfold rk2 at hq
      rw [e] at hq
      refine .inr ⟨false, hv, ?_⟩
      walk_at "w"
      refine w_methF ?_
      refine w_fldT T.cl_Watching T.n_Watching__trail ok.wa.obj rfl ?_
      refine ⟨x.tr, x.t.dx, _, rfl, ok.ta.obj, by rfl, ?_⟩
      walk_at "w"
      refine ⟨x.tr, x.t, x.ns, x.rs, l, rfl, ok.ta, lb, by omega, fun _ => ?_, fun z => absurd hl z⟩
      rw [ha]
      walk_at "w"
      exact hq _ (by assumption)
end
end L

namespace L
open PySem PySem.Spec PyProof.Rows L2 Z M MR MT X2
open _root_.SX (S S_len S_cat S_inj)
def lamQ : Str := ("Watching._best_watched" ++ ".<locals>.") ++ "<lambda>"
abbrev T0 {K : PySem.W.Frag} {mg : Str → Option Value} (T : Txt K mg) : Tb := [(T.P_bw, lamQ)]
section
variable {P : Program} {w : World} {K : PySem.W.Frag} {mg : Str → Option Value} {base : Heap}
theorem w_lamQ {Tt : List (Addr × Str)} {i : Nat} {te : TE} {σ : L2.St} {H : Hp} {Q : VK} (h : tCons te tNil σ H fun vs H1 => LK.rLamQ K Tt i σ vs H1 Q) : LK.tLamQ K Tt i te σ H Q := h
theorem pairLe_ahead {t : WA.Tr} {a b : Int} (h : LK.pairLe (rk2 t) a b = true) : WA.Ahead t a b := fun v e => by
  unfold LK.pairLe at h
  have h := of_decide_eq_true h
  unfold rk2 at h
  rw [e] at h
  cases e2 : WA.rkW t b with
  | none =>
    rw [e2] at h
    simp at h
  | some u =>
    rw [e2] at h
    simp at h
    exact ⟨u, rfl, by omega⟩
theorem pairLe_trans (rk : Int → Int × Int) (a b c : Int) (h1 : LK.pairLe rk a b = true) (h2 : LK.pairLe rk b c = true) : LK.pairLe rk a c = true := by
  unfold LK.pairLe at h1 h2 ⊢
  have h1 := of_decide_eq_true h1
  have h2 := of_decide_eq_true h2
  refine decide_eq_true ?_
  omega
theorem pairLe_total (rk : Int → Int × Int) (a b : Int) : (LK.pairLe rk a b || LK.pairLe rk b a) = true := by
  unfold LK.pairLe
  rw [Bool.or_eq_true]
  by_cases h : (rk a).1 < (rk b).1 ∨ ((rk a).1 = (rk b).1 ∧ (rk a).2 ≤ (rk b).2)
  · exact .inl (decide_eq_true h)
  · exact .inr (decide_eq_true (by omega))
theorem sorted_ahead (t : WA.Tr) (c : List Int) : (c.mergeSort (LK.pairLe (rk2 t))).Perm c ∧ (c.mergeSort (LK.pairLe (rk2 t))).Pairwise (WA.Ahead t) :=
  ⟨List.mergeSort_perm _ _, (List.pairwise_mergeSort (le := LK.pairLe (rk2 t)) (fun a b c => pairLe_trans _ a b c) (fun a b => pairLe_total _ a b) c).imp fun h => pairLe_ahead h⟩
theorem cut_to2 (xs : List V) (s : Nat) : cutV xs none (some (s : Int)) = xs.take s := by
  by_cases h : s ≤ xs.length
  · exact cut_to h
  · unfold cutV
    rw [HT.sIx_nat, HT.sIx_none, Nat.min_eq_right (by omega), List.drop_zero, Nat.sub_zero, List.take_of_length_le (Nat.le_refl _), List.take_of_length_le (by omega)]
theorem w_slTo2 {a : Addr} {xs : List V} {s : Nat} {H : Hp} {Q : VK} (h : SqL K H a xs) (q : ∀ p, H p = none → Q (.ref p) (upd H p (.lst (xs.take s)))) : rSlL K (.ref a) none (some (s : Int)) H Q :=
  ⟨a, xs, rfl, h, fun p hp => by rw [cut_to2]; exact q p hp⟩
def spBest (K : PySem.W.Frag) (CT CW : Addr) (T : Tb) : Sp := fun vs H Q _ => ∃ (x : WS) (k : Nat) (a : Addr) (c : List Int), vs = [.ref x.o, .ref a] ∧ WOk K CT CW H x ∧ WInv x k ∧ SqT K H a (c.map V.int) ∧ c.length ≤ 100 ∧ (∀ l ∈ c, (l.natAbs : Int) ∈ x.ns) ∧ LamX.Tabs T H ∧
  ∀ (p : Addr) (H' : Hp) (ys : List Int), DX T [] [] H H' → (∀ y, H p = some y → ∃ ps, y = .tbl ps) → ys.Perm c → ys.Pairwise (WA.Ahead (tl x.rs)) → H' p = some (.tup ((ys.take 2).map V.int)) → Q (.ref p) H'
theorem ok_best (T : Txt K mg) (TB : LamX.TabB base mg T.c_bw T.P_bw) : FnOk P w K mg base CX0 7 T.f_Watching_best_watched T.fd_Watching_best_watched ["self", "clause"] (spBest K T.C_Trail T.C_Watching (T0 T)) := by
  have G_Watching_rank := ok_rank (P := P) (w := w) (base := base) T
  refine T.FT_bw.ok sc_Watching_best_watched (fun vs H Q E h => ?_) (fun A outer s H vs Q E hr h => ?_)
  · obtain ⟨x, k, a, c, rfl, _⟩ := h
    rfl
  · obtain ⟨x, k, a, c, rfl, ok, inv, hS, hl, hc, tabs, h⟩ := h
    refine ⟨_, (pss_cons (ps_set (i := 2) sc_Watching_best_watched.nd rfl (.inr rfl) (pe_dc (own := [("literal", 3)]) (g := gName 3) (tt := tYes) (by rfl) sc_Watching_best_watched.nd (pi_tup (pv 1)) (blkOk_by (own := [("literal", 3)]) (N := N_Watching_best_watched) (sc := defScope s_Watching_best_watched) (by decide +kernel)) (fun _ _ _ _ _ => pg_name (i := 3) sc_Watching_best_watched.nd rfl (Or.inl rfl)) (fun _ _ _ _ _ => pts_nil) (fun _ _ _ _ _ => (pv 3)) (fun _ _ _ _ _ => (pe_meth (pv 0) T.cl_Watching T.M_Watching_rank G_Watching_rank (hr.mono (by first | decide | omega)) T.b_Watching_rank .nil pass0 (pa_cons (pv 3) pa_nil)))))
 (pss_cons (ps_set (i := 4) sc_Watching_best_watched.nd rfl (.inl rfl) (LK.pe_sortedLam (kk := 0) (i := 2) (T := [(T.P_bw, lamQ)]) (hr.mono (by first | decide | omega)) (by rfl) T.m_sorted (pv 1) TB rfl (List.mem_singleton.mpr rfl) (fun p hp _ => by rw [List.mem_singleton.mp hp]; rfl) (LK.ks_by (sc := defScope s_Watching_best_watched) (by decide +kernel)) rfl (fun _ _ _ _ _ _ => rfl) rfl))
 (pss_one (ps_ret (pe_callTy call_tuple_of (by rfl) T.m_tuple (by decide +kernel) (pa_cons (pe_slice sl_list (pv 4) po_none (po_some pe_int)) pa_nil)))))), ?_⟩
    refine Z.w_start (σ' := [some (.ref x.o), some (.ref a), none, none, none]) rfl ?_
    walk_at "w"
    refine L.w_dc ?_
    walk_at "w"
    intro D hD
    refine L.dc_it (walk_tup (K := K) (a := a) (xs := c.map V.int)) (fun i H' => ∃ kvs, H' D = some (.dK kvs) ∧ kvs.length ≤ i ∧ Same H H' ∧ ∀ (j : Nat) (l : Int), j < i → c[j]? = some l → ∃ t, valV kvs (Sum.inl l) = some (.ref t) ∧ H' t = some (.tup [.int (rk2 (tl x.rs) l).1, .int (rk2 (tl x.rs) l).2])) ?_ ?_ ?_ ?_
    · exact ⟨[], upd_same, Nat.le_refl _, same_of (Same.refl _) hD, fun j l hj => by omega⟩
    · rintro i H' hi ⟨kvs, _, _, sm, _⟩
      exact Evl.ex_t sm hS
    · rintro i y H1 H' hi ⟨kvs, hDk, hkl, sm, hk⟩ ⟨rfl, hx⟩
      rw [List.getElem?_map] at hx
      rw [List.length_map] at hi
      rw [List.getElem?_eq_getElem hi] at hx
      obtain rfl := Option.some.inj hx
      have ok1 := ok.same sm
      refine Z.w_gname (σ' := [some (.ref x.o), some (.ref a), none, some (.int c[i]), none]) rfl ⟨rfl, ?_⟩
      walk_at "w"
      refine w_meth0 ok1.wa.obj rfl (by rfl) ?_
      walk_at "w"
      refine ⟨x, k, c[i], rfl, ok1, inv, hc _ (List.getElem_mem hi), fun p hp => ?_⟩
      have npD : p ≠ D := fun z => by rw [z, hDk] at hp; cases hp
      refine ⟨kvs, Sum.inl c[i], rfl, upd_of hp hDk, Nat.lt_of_le_of_lt hkl (Nat.lt_trans (show i < 200 by omega) (by decide)), _, upd_same, Nat.le_trans (length_putK _ _ _) (by omega), same_mut (same_of sm hp) hD, fun j l hj hc' => ?_⟩
      rw [valV_put]
      by_cases e : l = c[i]
      · refine ⟨p, if_pos (by rw [e]), ?_⟩
        rw [upd_ne npD, upd_same, e]
      · rw [if_neg (fun z => e (Sum.inl.inj z))]
        have hji : j < i := by
          rcases Nat.lt_or_ge j i with z | z
          · exact z
          · have : j = i := by omega
            rw [this, List.getElem?_eq_getElem hi] at hc'
            exact absurd (Option.some.inj hc').symm e
        obtain ⟨t, h1, h2⟩ := hk j l hji hc'
        refine ⟨t, h1, ?_⟩
        have ntD : t ≠ D := fun z => by rw [z, hDk] at h2; cases h2
        rw [upd_ne ntD]
        exact upd_of hp h2
    · rintro H5 ⟨kvs, hDk, hkl, sm, hk⟩
      walk_at "w"
      refine w_lamQ ?_
      walk_at "w"
      refine ⟨a, D, c, kvs, rk2 (tl x.rs), rfl, .inr (Evl.ex_t sm hS), by omega, rfl, hDk, fun l hl2 => ?_, tabs.ext sm, fun H6 p eN T6 hp => ?_⟩
      · obtain ⟨j, hj⟩ := List.mem_iff_getElem?.mp hl2
        exact hk j l (by rw [List.length_map]; exact (List.getElem?_eq_some_iff.mp hj).1) hj
      · obtain ⟨s1, s2⟩ := sorted_ahead (tl x.rs) c
        have ls := s1.length_eq
        generalize c.mergeSort (LK.pairLe (rk2 (tl x.rs))) = ys at s1 s2 ls
        have k56 : DX (T0 T) [] [] H H6 := ((DX.refl (T := T0 T) [] H).same sm).trans ⟨fun b y _ nt e => eN b y e nt, (fun b hb => by cases hb), fun _ => T6⟩
        walk_at "w"
        refine w_slTo2 (s := 2) (.inl (.inl upd_same)) fun q hq => ?_
        have k7 := k56.new0 (u := .lst (ys.map V.int)) hp
        have k8 := k7.new0 (u := .lst ((ys.map V.int).take 2)) hq
        walk_at "w"
        refine ⟨q, _, rfl, .inl ⟨.inl (.inl upd_same), fun r hr => ?_⟩⟩
        refine h r _ ys (k8.new0 hr) (fun y e => ?_) s1 s2 ?_
        · cases y with
          | tbl ps => exact ⟨ps, rfl⟩
          | _ =>
            have := k8.kp r _ (by simp) (fun ps z => by cases z) e
            rw [hr] at this
            cases this
        · rw [upd_same, ← List.map_take]
end
end L

namespace L
open PySem PySem.Spec PyProof.Rows L2 Z M MR MT X2
open _root_.SX (S S_len S_cat S_inj)
section
variable {P : Program} {w : World} {K : PySem.W.Frag} {mg : Str → Option Value} {base : Heap}
theorem w_dsetd {td ty tx : TE} {σ : L2.St} {H : Hp} {Q : VK} (h : td σ H fun x H1 => ∃ a, x = .ref a ∧ IsD H1 a ∧ ty σ H1 fun y H2 => tx σ H2 fun z H3 => ∃ (kvs : List (Key × V)) (k : Key), H3 a = some (.dK kvs) ∧ y = kV k ∧ kvs.length < sizeLine ∧ (∀ v, valV kvs k = some v → Q v H3) ∧ (valV kvs k = none → Q z (upd H3 a (.dK (putK kvs k z))))) : tDSetd td ty tx σ H Q := h
theorem nV_snoc (ns : List Nat) (n : Nat) : nV ns ++ [V.int (n : Int)] = nV (ns ++ [n]) := by unfold nV; rw [List.map_append]; rfl
def addWt (wt : Int → List Nat) (l : Int) (n : Nat) : Int → List Nat := fun y => if y = l then wt l ++ [n] else wt y
def WS.addn (x : WS) (wl : List (Int × Addr)) (l : Int) (n : Nat) : WS := { x with R := { x.R with wl := wl }, D := { x.D with wt := addWt x.D.wt l n } }
/-- self._watchers.setdefault(l, []).append(n) -/
theorem w_addn {T : Txt K mg} {Tt : Tb} {H : Hp} {x : WS} {l : Int} {n i j : Nat} {σ : L2.St} {Q : VK} (ok : WOk K T.C_Trail T.C_Watching H x) (hwl : x.R.wl.length ≤ 1000) (hwt : (x.D.wt l).length ≤ 1000) (hi : σ[i]? = some (some (.int l))) (hj : σ[j]? = some (some (.int (n : Int))))
    (q : ∀ H' wl, DX Tt x.mut (x.addn wl l n).mut H H' → WOk K T.C_Trail T.C_Watching H' (x.addn wl l n) → (∀ p ∈ wl, p.1 = l ∨ ∃ p' ∈ x.R.wl, p'.1 = p.1) → (∀ p ∈ x.R.wl, p ∈ wl) → Q .non H') :
    tBM K "list" rAppend (tDSetd (tFld K (tVar 0) "_watchers") (tVar (i + 1)) (tLst tNil)) (tCons (tVar (j + 1)) tNil) (some (.ref x.o) :: σ) H Q := by
  refine Z.w_bm (w_dsetd ?_)
  refine w_fldT T.cl_Watching T.n_Watching__watchers ok.wa.obj rfl ?_
  refine ⟨x.R.dw, rfl, .inl ⟨_, .inl ok.wa.dw⟩, Z.w_var (v := V.int l) hi (Z.w_lst (Z.w_nil ⟨Nat.zero_le _, fun z hz => ?_⟩))⟩
  have hl2 : (wkv x.R.wl).length < sizeLine := by
    unfold wkv
    rw [List.length_map]
    exact Nat.lt_of_le_of_lt hwl (by decide)
  obtain ⟨fz1, fz2⟩ := ok.fresh hz
  have ok1 : WOk K T.C_Trail T.C_Watching (upd H z (.lst [])) x := ok.same (same_of (Same.refl _) hz)
  refine ⟨wkv x.R.wl, Sum.inl l, ok1.wa.dw, rfl, hl2, fun v hv => ?_, fun hv => ?_⟩
  · rw [wkv_val] at hv
    obtain ⟨a, ha, rfl⟩ := Option.map_eq_some_iff.mp hv
    have hm : (l, a) ∈ x.R.wl := by
      have : ∀ {wl : List (Int × Addr)}, wl.lookup l = some a → (l, a) ∈ wl := by
        intro wl
        induction wl with
        | nil => intro h; cases h
        | cons p wl ih =>
          intro h
          rw [List.lookup_cons] at h
          by_cases e : l = p.1
          · rw [show (l == p.1) = true by simp [e]] at h
            have : p.2 = a := Option.some.inj h
            rw [← this, e]
            exact List.mem_cons_self
          · rw [show (l == p.1) = false by simpa using e] at h
            exact List.mem_cons_of_mem _ (ih h)
      exact this ha
    have hL := ok1.wa.wl _ hm
    refine ⟨.inl ⟨rfl, _, .inl (.inl hL)⟩, Z.w_cons (Z.w_var (v := V.int (n : Int)) hj (Z.w_nil ⟨a, _, _, rfl, rfl, hL, ?_, ?_⟩))⟩
    · rw [nV_len]
      exact Nat.lt_of_le_of_lt hwt (by decide)
    · have wa2 := ok1.wa.setL hm (x.D.wt l ++ [n])
      have hb : a ∈ x.wm := List.mem_append_right _ (List.mem_map.mpr ⟨_, hm, rfl⟩)
      have ok2 := ok1.put hb wa2 (fun c hc => .inl hc)
      have d2 : DX Tt x.mut x.mut H (upd (upd H z (.lst [])) a (.lst (nV (x.D.wt l ++ [n])))) := ((DX.refl x.mut H).new0 hz).put' (List.mem_append_right _ hb) hL trivial
      have e : nV (x.D.wt l) ++ [V.int (n : Int)] = nV (x.D.wt l ++ [n]) := nV_snoc _ _
      rw [e]
      exact q _ x.R.wl d2 ok2 (fun p hp => .inr ⟨p, hp, rfl⟩) fun p hp => hp
  · rw [wkv_val] at hv
    have hn : l ∉ x.R.wl.map (·.1) := fun hm => by
      obtain ⟨p, hp, e⟩ := List.mem_map.mp hm
      have := wl_look ok.wa.wk hp
      rw [e] at this
      rw [this] at hv
      cases hv
    have ez : x.D.wt l = [] := ok.wa.wn l hn
    have wa2 := ok1.wa.addL (q := z) hn [] upd_same fz1
    have mb : x.R.dw ∈ x.wm := List.mem_append_left _ (by simp)
    have hs : ∀ c ∈ wmut x.o { x.R with wl := x.R.wl ++ [(l, z)] }, c = z ∨ c ∈ x.wm := fun c hc => by
      rcases List.mem_append.mp hc with hc | hc
      · exact .inr (List.mem_append_left _ hc)
      · have hc : c ∈ (x.R.wl ++ [(l, z)]).map (·.2) := hc
        rw [List.map_append] at hc
        rcases List.mem_append.mp hc with hc | hc
        · exact .inr (List.mem_append_right _ hc)
        · exact .inl (by simpa using hc)
    have ok2 := ok1.put mb wa2 (fun c hc => (hs c hc).elim (fun e => .inr (by rw [e]; exact fz2)) .inl)
    have nz : z ≠ x.R.dw := fun e => fz1 (by rw [e]; exact mb)
    have hL : (upd (upd H z (.lst [])) x.R.dw (.dK (putK (wkv x.R.wl) (Sum.inl l) (V.ref z)))) z = some (.lst []) := by rw [upd_ne nz, upd_same]
    refine ⟨.inl ⟨rfl, _, .inl (.inl hL)⟩, Z.w_cons (Z.w_var (v := V.int (n : Int)) hj (Z.w_nil ⟨z, _, _, rfl, rfl, hL, (by decide), ?_⟩))⟩
    have wa3 := ok2.wa.setL (p := (l, z)) (show (l, z) ∈ x.R.wl ++ [(l, z)] by simp) [n]
    have mz : z ∈ wmut x.o { x.R with wl := x.R.wl ++ [(l, z)] } := List.mem_append_right _ (List.mem_map.mpr ⟨(l, z), by simp, rfl⟩)
    have ok3 := ok2.put (b := z) mz wa3 (fun c hc => .inl hc)
    have e1 : (fun y => if y = l then [n] else (if y = l then [] else x.D.wt y)) = addWt x.D.wt l n := by
      funext y
      unfold addWt
      by_cases e : y = l
      · rw [if_pos e, if_pos e, ez]
        rfl
      · rw [if_neg e, if_neg e, if_neg e]
    have d3 : DX Tt x.mut (x.addn (x.R.wl ++ [(l, z)]) l n).mut H (upd (upd (upd H z (.lst [])) x.R.dw (.dK (putK (wkv x.R.wl) (Sum.inl l) (V.ref z)))) z (.lst (nV [n]))) := by
      have a1 : DX Tt x.mut (z :: x.mut) H (upd H z (.lst [])) := (DX.refl x.mut H).new hz
      have a2 := a1.put' (b := x.R.dw) (u := .dK (putK (wkv x.R.wl) (Sum.inl l) (V.ref z))) (List.mem_cons_of_mem _ (List.mem_append_right _ mb)) ok1.wa.dw trivial
      have a3 := a2.put' (b := z) (u := .lst (nV [n])) List.mem_cons_self hL trivial
      refine a3.sub fun c hc => ?_
      rcases List.mem_append.mp hc with hc | hc
      · exact List.mem_cons_of_mem _ (List.mem_append_left _ hc)
      · rcases hs c hc with e | e
        · rw [e]; exact List.mem_cons_self
        · exact List.mem_cons_of_mem _ (List.mem_append_right _ e)
    refine q _ (x.R.wl ++ [(l, z)]) d3 ?_ (fun p hp => ?_) fun p hp => List.mem_append_left _ hp
    · have e2 : x.addn (x.R.wl ++ [(l, z)]) l n = { x with R := { x.R with wl := x.R.wl ++ [(l, z)] }, D := { x.D with wt := fun y => if y = l then [n] else (if y = l then [] else x.D.wt y) } } := by
        unfold WS.addn
        rw [e1]
      rw [e2]
      exact ok3
    · rcases List.mem_append.mp hp with hp | hp
      · exact .inr ⟨p, hp, rfl⟩
      · exact .inl (by rw [List.mem_singleton.mp hp])
end
end L

namespace WA
theorem getD_snoc (fg : List Bool) (n : Nat) : (fg ++ [false]).getD n false = fg.getD n false := by
  rw [List.getD_eq_getElem?_getD, List.getD_eq_getElem?_getD]
  by_cases h : n < fg.length
  · rw [List.getElem?_append_left h]
  · rw [List.getElem?_append_right (by omega), List.getElem?_eq_none (l := fg) (by omega)]
    by_cases h2 : n - fg.length = 0
    · rw [h2]; rfl
    · rw [List.getElem?_eq_none (by simp; omega)]
/-- a clause is put -/
theorem CI.put {t : Tr} {d k : Nat} {cs wp : List (List Int)} {fg : List Bool} {fr : List Nat} {wt : Int → List Nat} (C : CI t d (fun _ => k) cs wp (fun n => fg.getD n false) fr wt) (L : LI cs.length wt) (hfr : ∀ n ∈ fr, n < cs.length) {c w : List Int} (o : One t d k c true w) {wt' : Int → List Nat}
    (hw : ∀ l, wt' l = if 2 ≤ c.length ∧ l ∈ w then wt l ++ [cs.length] else wt l) (hfl : fg.length = cs.length) :
    CI t d (fun _ => k) (cs ++ [c]) (wp ++ [w]) (fun n => (fg ++ [false]).getD n false) (fr ++ [cs.length]) wt' ∧ LI (cs.length + 1) wt' := by
  have lw := C.wl
  have nin : ∀ l, cs.length ∉ wt l := fun l z => Nat.lt_irrefl _ ((L l).2 _ z)
  have old : ∀ n l, n < cs.length → (Wat (cs ++ [c]) (wp ++ [w]) n l ↔ Wat cs wp n l) := fun n l hn => by
    unfold Wat
    rw [List.getElem?_append_left hn, List.getElem?_append_left (by omega)]
  have new : ∀ l, Wat (cs ++ [c]) (wp ++ [w]) cs.length l ↔ 2 ≤ c.length ∧ l ∈ w := fun l => by
    unfold Wat
    rw [List.getElem?_append_right (Nat.le_refl _), List.getElem?_append_right (by omega), Nat.sub_self, lw, Nat.sub_self]
    constructor
    · rintro ⟨c1, w1, e1, e2, h1, h2⟩
      obtain rfl : c = c1 := by simpa using e1
      obtain rfl : w = w1 := by simpa using e2
      exact ⟨h1, h2⟩
    · rintro ⟨h1, h2⟩
      exact ⟨c, w, by simp, by simp, h1, h2⟩
  refine ⟨⟨by rw [List.length_append, List.length_append, lw]; rfl, fun n c' w' hc hw' hf => ?_, fun l n hf => ?_⟩, fun l => ?_⟩
  · try dsimp only at hf
    rw [getD_snoc] at hf
    rcases Nat.lt_or_ge n cs.length with hn | hn
    · rw [List.getElem?_append_left hn] at hc
      rw [List.getElem?_append_left (by omega)] at hw'
      have q := C.one n c' w' hc hw' hf
      have e : decide (n ∈ fr ++ [cs.length]) = decide (n ∈ fr) := by
        congr 1
        rw [List.mem_append, List.mem_singleton, eq_iff_iff]
        exact ⟨fun h => h.elim id fun z => absurd z (Nat.ne_of_lt hn), .inl⟩
      rw [e]
      exact q
    · have hn2 : n = cs.length := by
        have := (List.getElem?_eq_some_iff.mp hc).1
        rw [List.length_append, List.length_singleton] at this
        omega
      subst hn2
      rw [List.getElem?_append_right (Nat.le_refl _), Nat.sub_self] at hc
      rw [List.getElem?_append_right (by omega), lw, Nat.sub_self] at hw'
      obtain rfl : c = c' := by simpa using hc
      obtain rfl : w = w' := by simpa using hw'
      rw [show decide (cs.length ∈ fr ++ [cs.length]) = true by simp]
      exact o
  · try dsimp only at hf
    rw [getD_snoc] at hf
    rcases Nat.lt_trichotomy n cs.length with hn | hn | hn
    · rw [old n l hn, hw l]
      have q := C.cnt l n hf
      by_cases h : 2 ≤ c.length ∧ l ∈ w
      · rw [if_pos h, List.count_append, List.count_singleton, if_neg (by simpa using Ne.symm (Nat.ne_of_lt hn)), Nat.add_zero]
        exact q
      · rw [if_neg h]
        exact q
    · subst hn
      rw [new l, hw l]
      have z := List.count_eq_zero.mpr (nin l)
      refine ⟨fun h => ?_, fun h => ?_⟩
      · rw [if_pos h, List.count_append, z, List.count_singleton_self]
      · rw [if_neg h]
        exact z
    · have nw : ¬ Wat (cs ++ [c]) (wp ++ [w]) n l := fun ⟨c1, _, e1, _⟩ => by
        have := (List.getElem?_eq_some_iff.mp e1).1
        rw [List.length_append, List.length_singleton] at this
        omega
      refine ⟨fun h => absurd h nw, fun _ => ?_⟩
      rw [hw l]
      have z : (wt l).count n = 0 := List.count_eq_zero.mpr fun z => by
        have := (L l).2 _ z
        omega
      split
      · rw [List.count_append, z, List.count_singleton, if_neg (by simp; omega)]
      · exact z
  · rw [hw l]
    split
    · refine ⟨?_, fun a ha => ?_⟩
      · rw [List.nodup_append]
        exact ⟨(L l).1, by simp, fun a ha b hb z => nin l (by rw [← List.mem_singleton.mp hb, ← z]; exact ha)⟩
      · rcases List.mem_append.mp ha with ha | ha
        · exact Nat.lt_succ_of_lt ((L l).2 a ha)
        · rw [List.mem_singleton.mp ha]; exact Nat.lt_succ_self _
    · exact ⟨(L l).1, fun a ha => Nat.lt_succ_of_lt ((L l).2 a ha)⟩
end WA
namespace L
open PySem PySem.Spec PyProof.Rows L2 Z M MR
theorem WInv.put {x : WS} {k : Nat} (inv : WInv x k) {a : Addr} {c : List Int} {s : Int} (nd : c.Nodup) (hc : ∀ l ∈ c, (l.natAbs : Int) ∈ x.ns) (pok : WA.PutOk (tl x.rs) (dep x.rs) c) {ys : List Int} (hp : ys.Perm c) (hs : ys.Pairwise (WA.Ahead (tl x.rs))) (cap : x.D.cs.length < 1000 ∧ x.D.so.length < 1000)
    {wl : List (Int × Addr)} (hwl : ∀ p ∈ wl, (p.1.natAbs : Int) ∈ x.ns) {wt' : Int → List Nat} (hw : ∀ l, wt' l = if 2 ≤ c.length ∧ l ∈ ys.take 2 then x.D.wt l ++ [x.D.cs.length] else x.D.wt l) {R : WR} (hR : R.wl = wl) :
    WInv { x with R := R, D := ⟨x.D.cs ++ [(a, c)], x.D.so ++ [s], x.D.wp ++ [ys.take 2], x.D.fg ++ [false], x.D.fr ++ [x.D.cs.length], x.D.sn, wt'⟩ } k := by
  have o := WA.put_one inv.ti pok nd ys hp hs rfl
  have L := inv.li
  have ll : x.D.cs.length = (x.D.cs.map (·.2)).length := (List.length_map _).symm
  rw [ll] at L
  obtain ⟨C, L2⟩ := WA.CI.put inv.ci L (fun n hn => by rw [← ll]; exact inv.frl n hn) o (wt' := wt') (fun l => by rw [← ll]; exact hw l) (by rw [← ll]; exact inv.fln)
  rw [← ll] at C L2
  refine ⟨inv.vis, inv.sle, inv.ti, inv.lit, fun q hq => ?_, inv.nsb, inv.nsl, ?_, ?_, fun n hn => ?_, ?_, ?_, ?_, ?_, fun p hp => hwl p (by rw [← hR]; exact hp)⟩
  · rcases List.mem_append.mp (show q ∈ x.D.cs ++ [(a, c)] from hq) with hq | hq
    · exact inv.cl q hq
    · rw [List.mem_singleton.mp hq]
      exact ⟨nd, hc⟩
  · have e : (x.D.cs ++ [(a, c)]).map (·.2) = x.D.cs.map (·.2) ++ [c] := by rw [List.map_append]; rfl
    show WA.CI _ _ _ ((x.D.cs ++ [(a, c)]).map (·.2)) _ _ _ _
    rw [e]
    exact C
  · show WA.LI (x.D.cs ++ [(a, c)]).length wt'
    rw [List.length_append]
    exact L2
  · show n < (x.D.cs ++ [(a, c)]).length
    rw [List.length_append]
    rcases List.mem_append.mp (show n ∈ x.D.fr ++ [x.D.cs.length] from hn) with hn | hn
    · exact Nat.lt_succ_of_lt (inv.frl n hn)
    · rw [List.mem_singleton.mp hn]; exact Nat.lt_succ_self _
  · show (x.D.fg ++ [false]).length = (x.D.cs ++ [(a, c)]).length
    rw [List.length_append, List.length_append, inv.fln]
    rfl
  · show (x.D.cs ++ [(a, c)]).length ≤ 1000
    rw [List.length_append, List.length_singleton]
    omega
  · show (x.D.fr ++ [x.D.cs.length]).length ≤ (x.D.cs ++ [(a, c)]).length
    rw [List.length_append, List.length_append]
    have := inv.frn
    simp
    omega
  · show (x.D.so ++ [s]).length ≤ 1000
    rw [List.length_append, List.length_singleton]
    omega
theorem WAt.addG {K : PySem.W.Frag} {C : Addr} {H : Hp} {o tr : Addr} {R : WR} {D : WD} (h : WAt K C H o tr R D) : WAt K C H o tr R { D with fg := D.fg ++ [false] } := by
  obtain ⟨kf, hf, h3, h4⟩ := h.df
  refine { h with df := ⟨kf, hf, ?_, fun n => ?_⟩ }
  · show _ ≤ (D.fg ++ [false]).count true
    rw [List.count_append]
    exact Nat.le_trans h3 (Nat.le_add_right _ _)
  · show _ = (D.fg ++ [false]).getD n false
    rw [WA.getD_snoc]
    exact h4 n
end L

namespace L
open PySem PySem.Spec PyProof.Rows L2 Z M MR MT X2
open _root_.SX (S S_len S_cat S_inj)
section
variable {P : Program} {w : World} {K : PySem.W.Frag} {mg : Str → Option Value} {base : Heap}
theorem DX.any {T : Tb} {S1 : List Addr} {H H' : Hp} (d : DX T [] S1 H H') (S : List Addr) : DX T S S H H' := ⟨fun b x _ nt e => d.kp b x (by simp) nt e, fun _ h => .inl h, d.tb⟩
def spWPut (K : PySem.W.Frag) (CT CW : Addr) (T : Tb) : Sp := fun vs H Q _ => ∃ (x : WS) (k : Nat) (a : Addr) (c : List Int) (s : Int), vs = [.ref x.o, .ref a, .int s] ∧ WOk K CT CW H x ∧ WInv x k ∧ SqT K H a (c.map V.int) ∧ c.length ≤ 100 ∧ c.Nodup ∧ (∀ l ∈ c, (l.natAbs : Int) ∈ x.ns) ∧ WA.PutOk (tl x.rs) (dep x.rs) c ∧ x.D.cs.length < 1000 ∧ x.D.so.length < 1000 ∧ LamX.Tabs T H ∧
  ∀ (H' : Hp) (x' : WS), DX T x.mut x'.mut H H' → WOk K CT CW H' x' → WInv x' k → x'.tr = x.tr → x'.o = x.o → x'.t = x.t → x'.ns = x.ns → x'.rs = x.rs → x'.D.cs = x.D.cs ++ [(a, c)] → x'.D.fg = x.D.fg ++ [false] → x'.D.so = x.D.so ++ [s] → Q (.int (x.D.cs.length : Int)) H'
theorem keys_len {x : WS} {k : Nat} (h : WInv x k) {wl : List (Int × Addr)} (nd : (wl.map (·.1)).Nodup) (key : ∀ p ∈ wl, (p.1.natAbs : Int) ∈ x.ns) : wl.length ≤ 100 := by
  have e : (wl.map (·.1)).length ≤ (x.ns ++ x.ns.map (fun n => -n)).length := by
    refine WA.sub_len nd fun a ha => ?_
    obtain ⟨p, hp, rfl⟩ := List.mem_map.mp ha
    have q := key p hp
    rw [List.mem_append]
    by_cases z : 0 ≤ p.1
    · exact .inl (by rw [show (p.1.natAbs : Int) = p.1 by omega] at q; exact q)
    · exact .inr (List.mem_map.mpr ⟨_, q, by omega⟩)
  rw [List.length_map, List.length_append, List.length_map] at e
  have := h.nsl.1
  omega
/-- the seat while a put goes through its pair: i of w have the number -/
def WS.put2 (x : WS) (a : Addr) (c : List Int) (s : Int) (w : List Int) (wl : List (Int × Addr)) (i : Nat) : WS := { x with R := { x.R with wl := wl }, D := ⟨x.D.cs ++ [(a, c)], x.D.so ++ [s], x.D.wp ++ [w], x.D.fg ++ [false], x.D.fr ++ [x.D.cs.length], x.D.sn, fun y => if y ∈ w.take i then x.D.wt y ++ [x.D.cs.length] else x.D.wt y⟩ }
theorem put2_zero (x : WS) (a : Addr) (c : List Int) (s : Int) (w : List Int) : x.put2 a c s w x.R.wl 0 = { x with D := ⟨x.D.cs ++ [(a, c)], x.D.so ++ [s], x.D.wp ++ [w], x.D.fg ++ [false], x.D.fr ++ [x.D.cs.length], x.D.sn, x.D.wt⟩ } := by
  unfold WS.put2
  simp
theorem put2_next {x : WS} {a : Addr} {c : List Int} {s : Int} {w : List Int} {wl wl' : List (Int × Addr)} {i : Nat} {l : Int} (nd : w.Nodup) (h : w[i]? = some l) : (x.put2 a c s w wl i).addn wl' l x.D.cs.length = x.put2 a c s w wl' (i + 1) := by
  have e : addWt (fun y => if y ∈ w.take i then x.D.wt y ++ [x.D.cs.length] else x.D.wt y) l x.D.cs.length = fun y => if y ∈ w.take (i + 1) then x.D.wt y ++ [x.D.cs.length] else x.D.wt y := by
    funext y
    unfold addWt
    have hn : l ∉ w.take i := fun z => by
      obtain ⟨j, hj⟩ := List.mem_iff_getElem?.mp z
      rw [List.getElem?_take] at hj
      split at hj
      · have := (List.getElem?_inj (List.getElem?_eq_some_iff.mp hj).1 nd).mp (hj.trans h.symm)
        omega
      · cases hj
    rw [List.take_add_one, h]
    by_cases e : y = l
    · subst e
      simp [hn]
    · simp [e]
  unfold WS.put2 WS.addn
  dsimp only
  rw [e]
theorem ok_wput (T : Txt K mg) (TB : LamX.TabB base mg T.c_bw T.P_bw) : FnOk P w K mg base CX0 8 T.f_Watching_put T.fd_Watching_put ["self", "clause", "source"] (spWPut K T.C_Trail T.C_Watching (T0 T)) := by
  have G_Watching_best_watched := ok_best (P := P) (w := w) (base := base) T TB
  refine T.F_Watching_put.ok sc_Watching_put (fun vs H Q E h => ?_) (fun cdv A outer s H vs Q E hr h => ?_)
  · obtain ⟨x, k, a, c, s, rfl, _⟩ := h
    rfl
  · obtain ⟨x, k, a, c, s, rfl, ok, inv, hS, hl, nd, hc, pok, cap, caps, tabs, h⟩ := h
    refine ⟨_, (pss_cons (ps_set (i := 3) sc_Watching_put.nd rfl (.inl rfl) (pe_meth (pv 0) T.cl_Watching T.M_Watching_best_watched G_Watching_best_watched (hr.mono (by first | decide | omega)) T.b_Watching_best_watched .nil pass0 (pa_cons (pv 1) pa_nil)))
 (pss_cons (ps_set (i := 4) sc_Watching_put.nd rfl (.inl rfl) (pe_callB call_len_seq (by rfl) T.m_len (by decide +kernel) (pa_cons (pe_fld (pv 0) rfl) pa_nil)))
 (pss_cons (ps_expr (pe_bm PySem.F.plainAttrs_list PySem.F.slot_list_append PySem.F.type_list_append mt_append (pe_fld (pv 0) rfl) (pa_cons (pv 1) pa_nil)))
 (pss_cons (ps_expr (pe_bm PySem.F.plainAttrs_list PySem.F.slot_list_append PySem.F.type_list_append mt_append (pe_fld (pv 0) rfl) (pa_cons (pv 2) pa_nil)))
 (pss_cons (ps_expr (pe_bm PySem.F.plainAttrs_list PySem.F.slot_list_append PySem.F.type_list_append mt_append (pe_fld (pv 0) rfl) (pa_cons (pv 3) pa_nil)))
 (pss_cons (ps_expr (pe_bm PySem.F.plainAttrs_list PySem.F.slot_list_append PySem.F.type_list_append mt_append (pe_fld (pv 0) rfl) (pa_cons (pv 4) pa_nil)))
 (pss_cons (ps_if (pt_cmpR op_eq (pe_callB call_len_seq (by rfl) T.m_len (by decide +kernel) (pa_cons (pv 3) pa_nil)) pe_int (nomark _)) (pss_one (ps_for PassesOwn.never rfl (pi_tup (pv 3)) (pg_name (i := 5) sc_Watching_put.nd rfl (.inl rfl)) (pss_one (ps_expr (pe_bm PySem.F.plainAttrs_list PySem.F.slot_list_append PySem.F.type_list_append mt_append (pe_dsetd (pe_fld (pv 0) rfl) (pv 5) (pe_lst pa_nil) ⟨rfl, rfl, rfl, rfl⟩) (pa_cons (pv 4) pa_nil)))))) pss_nil)
 (pss_one (ps_ret (pv 4)))))))))), ?_⟩
    refine Z.w_start (σ' := [some (.ref x.o), some (.ref a), some (.int s), none, none, none]) rfl ?_
    walk_at "w"
    refine w_meth0 ok.wa.obj rfl (by rfl) ?_
    walk_at "w"
    refine ⟨x, k, a, c, rfl, ok, inv, hS, hl, hc, tabs, fun p H1 ys d1 fp s1 s2 hp => ?_⟩
    have ok1 := ok.dx0 d1
    have d1' : DX (T0 T) x.mut x.mut H H1 := d1.any _
    have hS1 : SqT K H1 a (c.map V.int) := sqT_dx d1 (fun b hb => by cases hb) hS
    have pm : p ∉ x.mut := fun z => by
      obtain ⟨y, e, m⟩ := ok1.mu p z
      rw [hp] at e
      rw [← Option.some.inj e] at m
      exact m
    have hcl := ok1.wa.cl
    have len1 := inv.cln
    walk_at "w"
    refine w_fldT T.cl_Watching T.n_Watching__clauses ok1.wa.obj rfl ?_
    walk_at "w"
    rw [List.length_map]
    refine Z.w_bm ?_
    refine w_fldT T.cl_Watching T.n_Watching__clauses ok1.wa.obj rfl ?_
    refine ⟨.inl ⟨rfl, _, .inl (.inl hcl)⟩, ?_⟩
    walk_at "w"
    refine ⟨x.R.lc, _, _, rfl, rfl, hcl, by rw [List.length_map]; exact Nat.lt_of_le_of_lt len1 (by decide), ?_⟩
    have mm : ∀ b ∈ [x.o, x.R.lc, x.R.ls, x.R.lw, x.R.dw, x.R.df, x.R.lf], b ∈ x.wm := fun b hb => List.mem_append_left _ hb
    have ok2 := ok1.put (mm x.R.lc (by simp)) (ok1.wa.setC (a, c) hS1) (fun c hc => .inl hc)
    have d2 := d1'.put' (u := .lst ((x.D.cs.map fun c => V.ref c.1) ++ [.ref a])) (List.mem_append_right _ (mm x.R.lc (by simp))) hcl trivial
    have hp2 : upd H1 x.R.lc (.lst ((x.D.cs.map fun c => V.ref c.1) ++ [.ref a])) p = some (.tup ((ys.take 2).map V.int)) := upd_keep (fun z => pm (by rw [z]; exact List.mem_append_right _ (mm x.R.lc (by simp)))) hp
    dsimp only at ok2
    generalize upd H1 x.R.lc (.lst ((x.D.cs.map fun c => V.ref c.1) ++ [.ref a])) = H2 at ok2 d2 hp2 ⊢
    -- the source
    have hso := ok2.wa.so
    walk_at "w"
    refine Z.w_bm ?_
    refine w_fldT T.cl_Watching T.n_Watching__sources ok2.wa.obj rfl ?_
    refine ⟨.inl ⟨rfl, _, .inl (.inl hso)⟩, ?_⟩
    walk_at "w"
    refine ⟨x.R.ls, _, _, rfl, rfl, hso, ?_, ?_⟩
    · rw [List.length_map]
      exact Nat.lt_of_le_of_lt inv.son (by decide)
    have ok3 := ok2.put (mm x.R.ls (by simp)) (ok2.wa.setS s) (fun c hc => .inl hc)
    have d3 := d2.put' (u := .lst (x.D.so.map V.int ++ [.int s])) (List.mem_append_right _ (mm x.R.ls (by simp))) hso trivial
    have hp3 : upd H2 x.R.ls (.lst (x.D.so.map V.int ++ [.int s])) p = some (.tup ((ys.take 2).map V.int)) := upd_keep (fun z => pm (by rw [z]; exact List.mem_append_right _ (mm x.R.ls (by simp)))) hp2
    dsimp only at ok3
    generalize upd H2 x.R.ls (.lst (x.D.so.map V.int ++ [.int s])) = H3 at ok3 d3 hp3 ⊢
    -- the watched pair
    obtain ⟨wt, hw, hwl, hws⟩ := ok3.wa.wa
    dsimp only at hw hwl hws
    walk_at "w"
    refine Z.w_bm ?_
    refine w_fldT T.cl_Watching T.n_Watching__watched ok3.wa.obj rfl ?_
    refine ⟨.inl ⟨rfl, _, .inl (.inl hw)⟩, ?_⟩
    walk_at "w"
    have lwp : x.D.wp.length ≤ 1000 := by
      have := inv.ci.wl
      rw [List.length_map] at this
      omega
    refine ⟨x.R.lw, _, _, rfl, rfl, hw, by rw [List.length_map, hwl]; exact Nat.lt_of_le_of_lt lwp (by decide), ?_⟩
    have ew : wt.map V.ref ++ [V.ref p] = (wt ++ [p]).map V.ref := by rw [List.map_append]; rfl
    rw [ew]
    have ok4 := ok3.put (mm x.R.lw (by simp)) (ok3.wa.setW hw hwl (wt ++ [p]) (x.D.wp ++ [ys.take 2]) (by rw [List.length_append, List.length_append, hwl]; rfl) (fun n a' ws e1 e2 => by
      by_cases hn : n < wt.length
      · rw [List.getElem?_append_left hn] at e1
        rw [List.getElem?_append_left (by omega)] at e2
        exact hws n a' ws e1 e2
      · rw [List.getElem?_append_right (by omega)] at e1
        rw [List.getElem?_append_right (by omega), ← hwl] at e2
        have hz : n - wt.length = 0 := by
          have := (List.getElem?_eq_some_iff.mp e1).1
          simp at this
          omega
        rw [hz] at e1 e2
        obtain rfl : p = a' := by simpa using e1
        obtain rfl : ys.take 2 = ws := by simpa using e2
        exact .inl (.inl hp3))) (fun c hc => .inl hc)
    have d4 := d3.put' (u := .lst ((wt ++ [p]).map V.ref)) (List.mem_append_right _ (mm x.R.lw (by simp))) hw trivial
    have hp4 : upd H3 x.R.lw (.lst ((wt ++ [p]).map V.ref)) p = some (.tup ((ys.take 2).map V.int)) := upd_keep (fun z => pm (by rw [z]; exact List.mem_append_right _ (mm x.R.lw (by simp)))) hp3
    dsimp only at ok4
    generalize upd H3 x.R.lw (.lst ((wt ++ [p]).map V.ref)) = H4 at ok4 d4 hp4 ⊢
    -- fresh
    have hfr := ok4.wa.fr
    walk_at "w"
    refine Z.w_bm ?_
    refine w_fldT T.cl_Watching T.n_Watching__fresh ok4.wa.obj rfl ?_
    refine ⟨.inl ⟨rfl, _, .inl (.inl hfr)⟩, ?_⟩
    walk_at "w"
    refine ⟨x.R.lf, _, _, rfl, rfl, hfr, ?_, ?_⟩
    · rw [nV_len]
      exact Nat.lt_of_le_of_lt (Nat.le_trans inv.frn len1) (by decide)
    have ef : nV x.D.fr ++ [V.int (x.D.cs.length : Int)] = nV (x.D.fr ++ [x.D.cs.length]) := nV_snoc _ _
    rw [ef]
    have ok5 := ok4.put (mm x.R.lf (by simp)) (ok4.wa.setF (x.D.fr ++ [x.D.cs.length])) (fun c hc => .inl hc)
    have d5 := d4.put' (u := .lst (nV (x.D.fr ++ [x.D.cs.length]))) (List.mem_append_right _ (mm x.R.lf (by simp))) hfr trivial
    have hp5 : upd H4 x.R.lf (.lst (nV (x.D.fr ++ [x.D.cs.length]))) p = some (.tup ((ys.take 2).map V.int)) := upd_keep (fun z => pm (by rw [z]; exact List.mem_append_right _ (mm x.R.lf (by simp)))) hp4
    dsimp only at ok5
    generalize upd H4 x.R.lf (.lst (nV (x.D.fr ++ [x.D.cs.length]))) = H5 at ok5 d5 hp5 ⊢
    have ly := s1.length_eq
    have lt2 : ((ys.take 2).map V.int).length = min 2 c.length := by rw [List.length_map, List.length_take, ly]
    have ok6 : WOk K T.C_Trail T.C_Watching H5 { x with D := ⟨x.D.cs ++ [(a, c)], x.D.so ++ [s], x.D.wp ++ [ys.take 2], x.D.fg ++ [false], x.D.fr ++ [x.D.cs.length], x.D.sn, x.D.wt⟩ } := ⟨ok5.ta, ok5.wa.addG, ok5.sep⟩
    have ndy : (ys.take 2).Nodup := (s1.nodup_iff.mpr nd).sublist (List.take_sublist _ _)
    have ycn : ∀ l ∈ ys.take 2, (l.natAbs : Int) ∈ x.ns := fun l hl => hc l (s1.mem_iff.mp (List.mem_of_mem_take hl))
    walk_at "w"
    by_cases h2 : 2 ≤ c.length
    · refine Z.w_iteT (by rw [lt2]; omega) ?_
      walk_at "w"
      refine for_tup (xs := (ys.take 2).map V.int) (fun i σ H' => ∃ wl x5, σ = [some (.ref x.o), some (.ref a), some (.int s), some (.ref p), some (.int (x.D.cs.length : Int)), x5] ∧
        DX (T0 T) x.mut (x.put2 a c s (ys.take 2) wl i).mut H5 H' ∧ WOk K T.C_Trail T.C_Watching H' (x.put2 a c s (ys.take 2) wl i) ∧ (∀ q ∈ wl, (q.1.natAbs : Int) ∈ x.ns)) ?_ ?_ ?_ ?_
      · refine ⟨x.R.wl, _, rfl, DX.refl _ _, ?_, inv.key⟩
        rw [put2_zero]
        exact ok6
      · rintro i σ H' hi ⟨wl, x5, rfl, d, ok', key⟩
        exact .inl (.inl (d.kp p _ pm (fun ps z => by cases z) hp5))
      · rintro i y σ H' hx ⟨wl, x5, rfl, d, ok', key⟩
        rw [List.getElem?_map] at hx
        obtain ⟨l, hl2, rfl⟩ := Option.map_eq_some_iff.mp hx
        walk_at "w"
        have wk : wl.length ≤ 100 := keys_len inv ok'.wa.wk key
        have lw := inv.li.len l
        refine w_addn (x := x.put2 a c s (ys.take 2) wl i) (T := T) (Tt := T0 T) (i := 4) (j := 3) (n := x.D.cs.length) (l := l) ok' (show wl.length ≤ 1000 by omega) ?_ rfl rfl fun H'' wl' d' ok'' key' _ => ?_
        · show (if l ∈ (ys.take 2).take i then x.D.wt l ++ [x.D.cs.length] else x.D.wt l).length ≤ 1000
          split
          · rw [List.length_append, List.length_singleton]
            omega
          · omega
        rw [put2_next ndy hl2] at d' ok''
        refine ⟨wl', _, rfl, d.trans d', ok'', fun q hq => ?_⟩
        rcases key' q hq with e | ⟨q', hq', e⟩
        · rw [e]
          exact ycn l (List.mem_of_getElem? hl2)
        · rw [← e]
          exact key q' hq'
      · rintro σ H' ⟨wl, x5, rfl, d, ok', key⟩
        walk_at "w"
        rw [List.length_map] at ok' d
        refine h _ (x.put2 a c s (ys.take 2) wl (ys.take 2).length) (d5.trans d) ok' (inv.put nd hc pok s1 s2 ⟨cap, caps⟩ key (fun l => ?_) rfl) rfl rfl rfl rfl rfl rfl rfl rfl
        rw [List.take_of_length_le (Nat.le_refl _)]
        by_cases hm : l ∈ ys.take 2
        · rw [if_pos hm, if_pos ⟨h2, hm⟩]
        · rw [if_neg hm, if_neg (fun z => hm z.2)]
    · refine Z.w_iteF (by rw [lt2]; omega) ?_
      walk_at "w"
      refine h _ { x with D := ⟨x.D.cs ++ [(a, c)], x.D.so ++ [s], x.D.wp ++ [ys.take 2], x.D.fg ++ [false], x.D.fr ++ [x.D.cs.length], x.D.sn, x.D.wt⟩ } d5 ok6 (inv.put nd hc pok s1 s2 ⟨cap, caps⟩ inv.key (fun l => ?_) rfl) rfl rfl rfl rfl rfl rfl rfl rfl
      rw [if_neg (fun z => h2 z.1)]
end
end L

namespace L
open PySem PySem.Spec PyProof.Rows L2 Z M MR
/-- what holds of the data but for the pairs -/
structure WB (x : WS) (k : Nat) : Prop where
  vis : x.t.tk.countP (fun a => decide (a < x.D.sn)) = k
  sle : x.D.sn ≤ x.t.nx
  ti : WA.TI (tl x.rs) (dep x.rs) k
  lit : ∀ l ∈ lits x.rs, (l.natAbs : Int) ∈ x.ns
  cl : ∀ c ∈ x.D.cs, c.2.Nodup ∧ ∀ l ∈ c.2, (l.natAbs : Int) ∈ x.ns
  nsb : ∀ n ∈ x.ns, 0 < n ∧ n < 10 ^ 9
  nsl : x.ns.length ≤ 50 ∧ x.ns.Nodup
  frl : ∀ n ∈ x.D.fr, n < x.D.cs.length
  fln : x.D.fg.length = x.D.cs.length
  cln : x.D.cs.length ≤ 1000
  frn : x.D.fr.length ≤ x.D.cs.length
  son : x.D.so.length ≤ 1000
  key : ∀ p ∈ x.R.wl, (p.1.natAbs : Int) ∈ x.ns
theorem WInv.b {x : WS} {k : Nat} (h : WInv x k) : WB x k := ⟨h.vis, h.sle, h.ti, h.lit, h.cl, h.nsb, h.nsl, h.frl, h.fln, h.cln, h.frn, h.son, h.key⟩
theorem WB.inv {x : WS} {k : Nat} (h : WB x k) (ci : WA.CI (tl x.rs) (dep x.rs) (fun _ => k) (x.D.cs.map (·.2)) x.D.wp (fun n => x.D.fg.getD n false) x.D.fr x.D.wt) (li : WA.LI x.D.cs.length x.D.wt) : WInv x k :=
  ⟨h.vis, h.sle, h.ti, h.lit, h.cl, h.nsb, h.nsl, ci, li, h.frl, h.fln, h.cln, h.frn, h.son, h.key⟩
theorem WB.nz {x : WS} {k : Nat} (h : WB x k) {l : Int} (hl : (l.natAbs : Int) ∈ x.ns) : l ≠ 0 ∧ l.natAbs < 10 ^ 60 := by
  have := h.nsb _ hl
  omega
theorem WB.rl {x : WS} {k : Nat} (h : WB x k) : x.rs.length ≤ 50 := by
  have e : ((lits x.rs).map Int.natAbs).length ≤ (x.ns.map Int.natAbs).length := by
    refine WA.sub_len ?_ fun a ha => ?_
    · have := h.ti.nd
      rwa [tl_lits] at this
    · obtain ⟨l, hl, rfl⟩ := List.mem_map.mp ha
      exact List.mem_map.mpr ⟨_, h.lit l hl, by simp⟩
  rw [List.length_map, List.length_map, lits_len] at e
  have := h.nsl.1
  omega
/-- a new row: its reason has it, the others are false -/
def GRow (cs : List (List Int)) (fg : List Bool) (rs : List TRow) (r : TRow) : Prop :=
  ∃ (n : Nat) (c : List Int), r.2 = some (n : Int) ∧ cs[n]? = some c ∧ fg.getD n false = false ∧ r.1 ∈ c ∧ r.1 ∉ lits rs ∧ -r.1 ∉ lits rs ∧ ∀ l ∈ c, l ≠ r.1 → -l ∈ lits rs
inductive Grow (cs : List (List Int)) (fg : List Bool) (rs : List TRow) : List TRow → Prop
  | refl : Grow cs fg rs rs
  | step {rs1 : List TRow} {r : TRow} : Grow cs fg rs rs1 → GRow cs fg rs1 r → Grow cs fg rs (rs1 ++ [r])
theorem Grow.trans {cs : List (List Int)} {fg : List Bool} {rs rs1 rs2 : List TRow} (a : Grow cs fg rs rs1) (b : Grow cs fg rs1 rs2) : Grow cs fg rs rs2 := by
  induction b with
  | refl => exact a
  | step _ h ih => exact .step ih h
theorem Grow.pre {cs : List (List Int)} {fg : List Bool} {rs rs1 : List TRow} (a : Grow cs fg rs rs1) : rs <+: rs1 := by
  induction a with
  | refl => exact List.prefix_refl _
  | step _ _ ih => exact ih.trans (List.prefix_append _ _)
theorem Grow.dep {cs : List (List Int)} {fg : List Bool} {rs rs1 : List TRow} (a : Grow cs fg rs rs1) : dep rs1 = dep rs := by
  induction a with
  | refl => rfl
  | @step rs1 r _ h ih =>
    obtain ⟨n, c, e, _⟩ := h
    rw [dep_snoc, ih, e]
    rfl
/-- a deed that only forces -/
structure Ext (x x' : WS) : Prop where
  tr : x'.tr = x.tr
  o : x'.o = x.o
  t : x'.t = { x.t with tk := x'.t.tk, nx := x'.t.nx }
  ns : x'.ns = x.ns
  cs : x'.D.cs = x.D.cs
  so : x'.D.so = x.D.so
  fg : x'.D.fg = x.D.fg
  gr : Grow (x.D.cs.map (·.2)) x.D.fg x.rs x'.rs
  tkp : x.t.tk <+: x'.t.tk
theorem Ext.refl (x : WS) : Ext x x := ⟨rfl, rfl, rfl, rfl, rfl, rfl, rfl, .refl, List.prefix_refl _⟩
theorem Ext.trans {x y z : WS} (a : Ext x y) (b : Ext y z) : Ext x z := by
  refine ⟨b.tr.trans a.tr, b.o.trans a.o, ?_, b.ns.trans a.ns, b.cs.trans a.cs, b.so.trans a.so, b.fg.trans a.fg, a.gr.trans ?_, a.tkp.trans b.tkp⟩
  · rw [b.t, a.t]
  · have := b.gr
    rwa [a.cs, a.fg] at this
/-- one is forced -/
def WS.frc (x : WS) (l : Int) (n : Nat) : WS := { x with t := x.t.push, rs := x.rs ++ [(l, some (n : Int))] }
theorem WB.frc {x : WS} {k : Nat} (h : WB x k) {l : Int} {n : Nat} (hl : (l.natAbs : Int) ∈ x.ns) (h1 : l ∉ lits x.rs) (h2 : -l ∉ lits x.rs) : WB (x.frc l n) k := by
  refine ⟨?_, Nat.le_succ_of_le h.sle, ?_, fun y hy => ?_, h.cl, h.nsb, h.nsl, h.frl, h.fln, h.cln, h.frn, h.son, h.key⟩
  · show (x.t.tk ++ [x.t.nx]).countP (fun a => decide (a < x.D.sn)) = k
    rw [List.countP_append, show [x.t.nx].countP (fun a => decide (a < x.D.sn)) = 0 by
      rw [List.countP_singleton, if_neg]
      simpa using h.sle, Nat.add_zero]
    exact h.vis
  · show WA.TI (tl (x.rs ++ [(l, some (n : Int))])) (dep (x.rs ++ [(l, some (n : Int))])) k
    rw [tl_snoc, dep_force]
    exact h.ti.grow (by rw [tl_lits]; exact h1) (by rw [tl_lits]; exact h2)
  · have hy : y ∈ lits (x.rs ++ [(l, some (n : Int))]) := hy
    rw [lits_snoc] at hy
    rcases List.mem_append.mp hy with hy | hy
    · exact h.lit y hy
    · rw [List.mem_singleton.mp hy]
      exact hl
theorem frc_ext {x : WS} {l : Int} {n : Nat} (h : GRow (x.D.cs.map (·.2)) x.D.fg x.rs (l, some (n : Int))) : Ext x (x.frc l n) := ⟨rfl, rfl, rfl, rfl, rfl, rfl, rfl, .step .refl h, List.prefix_append _ _⟩
theorem frc_tl (x : WS) (l : Int) (n : Nat) : tl (x.frc l n).rs = tl x.rs ++ [(l, dep x.rs)] := by
  show tl (x.rs ++ [(l, some (n : Int))]) = _
  rw [tl_snoc, dep_force]
theorem frc_dep (x : WS) (l : Int) (n : Nat) : dep (x.frc l n).rs = dep x.rs := dep_force _ _ _
theorem WInv.frc {x : WS} {k : Nat} (h : WInv x k) {l : Int} {n : Nat} (hl : (l.natAbs : Int) ∈ x.ns) (h1 : l ∉ lits x.rs) (h2 : -l ∉ lits x.rs) : WInv (x.frc l n) k := by
  refine (h.b.frc hl h1 h2).inv ⟨h.ci.wl, fun m c w hc hw hf => ?_, h.ci.cnt⟩ h.li
  rw [frc_tl, frc_dep]
  exact (h.ci.one m c w hc hw hf).grow (by have := h.ti.kle; exact this)
end L

namespace L
open PySem PySem.Spec PyProof.Rows L2 Z M MR MT X2
open _root_.SX (S S_len S_cat S_inj)
section
variable {P : Program} {w : World} {K : PySem.W.Frag} {mg : Str → Option Value} {base : Heap}
def spOther (K : PySem.W.Frag) (CT CW : Addr) : Sp := fun vs H Q _ => ∃ (x : WS) (n : Nat) (l u v : Int), vs = [.ref x.o, .int (n : Int), .int l] ∧ WOk K CT CW H x ∧ x.D.wp[n]? = some [u, v] ∧ Q (.int (if u = l then v else u)) H
theorem wp_at {K : PySem.W.Frag} {C : Addr} {H : Hp} {o tr : Addr} {R : WR} {D : WD} (h : WAt K C H o tr R D) {n : Nat} {ws : List Int} (hn : D.wp[n]? = some ws) : ∃ (xs : List V) (a : Addr), H R.lw = some (.lst xs) ∧ atI xs (n : Int) = some (.ref a) ∧ SqT K H a (ws.map V.int) := by
  obtain ⟨wt, hw, hl, hs⟩ := h.wa
  have hlt : n < wt.length := by
    rw [hl]
    exact (List.getElem?_eq_some_iff.mp hn).1
  refine ⟨_, wt[n], hw, atI_nat ?_, hs n _ ws (List.getElem?_eq_getElem hlt) hn⟩
  rw [List.getElem?_map, List.getElem?_eq_getElem hlt]
  rfl
theorem cl_at {K : PySem.W.Frag} {C : Addr} {H : Hp} {o tr : Addr} {R : WR} {D : WD} (h : WAt K C H o tr R D) {n : Nat} {c : List Int} (hn : (D.cs.map (·.2))[n]? = some c) : ∃ (a : Addr), atI (D.cs.map fun c => V.ref c.1) (n : Int) = some (.ref a) ∧ SqT K H a (c.map V.int) := by
  rw [List.getElem?_map] at hn
  obtain ⟨p, hp, rfl⟩ := Option.map_eq_some_iff.mp hn
  refine ⟨p.1, atI_nat ?_, h.ct p (List.mem_of_getElem? hp)⟩
  rw [List.getElem?_map, hp]
  rfl
theorem ok_other (T : Txt K mg) : FnOk P w K mg base CX0 1 T.f_Watching_other T.fd_Watching_other ["self", "number", "literal"] (spOther K T.C_Trail T.C_Watching) := by
  refine T.F_Watching_other.ok sc_Watching_other (fun vs H Q E h => ?_) (fun cdv A outer s H vs Q E hr h => ?_)
  · obtain ⟨x, n, l, u, v, rfl, _⟩ := h
    rfl
  · obtain ⟨x, n, l, u, v, rfl, ok, hn, h⟩ := h
    obtain ⟨xs, a, hw, ha, hS⟩ := wp_at ok.wa hn
    have hS : SqT K H a [.int u, .int v] := hS
    refine ⟨_, (pss_cons (ps_asg (pe_ix ix_list (pe_fld (pv 0) rfl) (pv 1) (fun _ _ => rfl)) (pg_tup (by rfl) (pgs_cons (pg_name (i := 3) sc_Watching_other.nd rfl (.inl rfl)) (pgs_cons (pg_name (i := 4) sc_Watching_other.nd rfl (.inl rfl)) pgs_nil))))
 (pss_one (ps_ret (pe_ifExp (pt_cmpR op_eq (pv 3) (pv 2) (nomark _)) (pv 4) (pv 3))))), ?_⟩
    refine Z.w_start (σ' := [some (.ref x.o), some (.int (n:Int)), some (.int l), none, none]) rfl ?_
    walk_at "w"
    refine w_fldT T.cl_Watching T.n_Watching__watched ok.wa.obj rfl ?_
    walk_at "w"
    by_cases e : u = l
    · rw [if_pos e] at h
      refine Z.w_iteT e ?_
      walk_at "w"
      exact h
    · rw [if_neg e] at h
      refine Z.w_iteF e ?_
      walk_at "w"
      exact h
/-- how the watcher asks the trail -/
theorem use_has {T : Txt K mg} {H : Hp} {x : WS} {l : Int} {Q : VK} {E : XK} (ok : WOk K T.C_Trail T.C_Watching H x) (h : Q (.bl (decide (l ∈ lits x.rs))) H) : spHas T.C_Trail [.ref x.tr, .int l] H Q E := ⟨x.tr, x.t, x.ns, x.rs, l, rfl, ok.ta, h⟩
theorem w_has {T : Txt K mg} {H : Hp} {x : WS} {l : Int} {σ : L2.St} {Q : VK} (ok : WOk K T.C_Trail T.C_Watching H x) (q : Q (.bl (decide (l ∈ lits x.rs))) H) : tFld K (tVar 0) "_trail" (some (.ref x.o) :: σ) H (fun y H2 => OWN.rInOwn T.C_Trail (spHas T.C_Trail) false (.int l) y H2 Q) :=
  w_fldT T.cl_Watching T.n_Watching__trail ok.wa.obj rfl ⟨x.tr, x.t.dx, _, rfl, ok.ta.obj, use_has ok ⟨_, rfl, q⟩⟩
theorem w_hasN {T : Txt K mg} {H : Hp} {x : WS} {l : Int} {σ : L2.St} {Q : VK} (ok : WOk K T.C_Trail T.C_Watching H x) (q : Q (.bl (!decide (l ∈ lits x.rs))) H) : tFld K (tVar 0) "_trail" (some (.ref x.o) :: σ) H (fun y H2 => OWN.rInOwn T.C_Trail (spHas T.C_Trail) true (.int l) y H2 Q) :=
  w_fldT T.cl_Watching T.n_Watching__trail ok.wa.obj rfl ⟨x.tr, x.t.dx, _, rfl, ok.ta.obj, use_has ok ⟨_, rfl, q⟩⟩
/-- a literal is forced -/
theorem w_force {T : Txt K mg} {Tt : Tb} {H : Hp} {x : WS} {k n i j : Nat} {l : Int} {σ : L2.St} {Q : VK} (ok : WOk K T.C_Trail T.C_Watching H x) (b : WB x k) (hl : (l.natAbs : Int) ∈ x.ns) (h1 : l ∉ lits x.rs) (h2 : -l ∉ lits x.rs) (hi : σ[i]? = some (some (.int l))) (hj : σ[j]? = some (some (.int (n : Int))))
    (q : ∀ H', DX Tt x.mut (x.frc l n).mut H H' → WOk K T.C_Trail T.C_Watching H' (x.frc l n) → Q .non H') : tMeth T.C_Trail "force" (spDo T.C_Trail T.C_BadLiteral false) [] E0 (tFld K (tVar 0) "_trail") (tCons (tVar (i + 1)) (tCons (tVar (j + 1)) tNil)) (some (.ref x.o) :: σ) H Q := by
  refine w_methF (w_fldT T.cl_Watching T.n_Watching__trail ok.wa.obj rfl ⟨x.tr, x.t.dx, _, rfl, ok.ta.obj, by rfl, Z.w_cons (Z.w_var (v := V.int l) hi (Z.w_cons (Z.w_var (v := V.int (n : Int)) hj (Z.w_nil ?_))))⟩)
  have rl := b.rl
  have hv : val x.rs l = .non := by
    unfold val
    rw [if_neg h1, if_neg h2]
  refine ⟨x.tr, x.t, x.ns, x.rs, l, (n : Int), rfl, ok.ta, (b.nz hl).2, by omega, fun _ H' d ta => ?_, fun z => absurd ⟨hl, hv⟩ z⟩
  exact q H' (ok.trD d) (ok.trX d ta)
def spClash (K : PySem.W.Frag) (CT CW : Addr) (T : Tb) : Sp := fun vs H Q _ => ∃ (x : WS) (k n : Nat) (l u v : Int), vs = [.ref x.o, .int (n : Int), .int l] ∧ WOk K CT CW H x ∧ WB x k ∧ x.D.wp[n]? = some [u, v] ∧ ((if u = l then v else u).natAbs : Int) ∈ x.ns ∧
  (-(if u = l then v else u) ∈ lits x.rs → Q (.int (n : Int)) H) ∧ (-(if u = l then v else u) ∉ lits x.rs → (if u = l then v else u) ∈ lits x.rs → Q .non H) ∧
  (-(if u = l then v else u) ∉ lits x.rs → (if u = l then v else u) ∉ lits x.rs → ∀ H', DX T x.mut (x.frc (if u = l then v else u) n).mut H H' → WOk K CT CW H' (x.frc (if u = l then v else u) n) → Q .non H')
theorem ok_clash (T : Txt K mg) {Tt : Tb} : FnOk P w K mg base CX0 7 T.f_Watching_clash_or_force T.fd_Watching_clash_or_force ["self", "number", "literal"] (spClash K T.C_Trail T.C_Watching Tt) := by
  have G_Watching_other := ok_other (P := P) (w := w) (base := base) T
  have G_Trail_contains := ok_has (P := P) (w := w) (base := base) T
  have G_Trail_force := ok_force (P := P) (w := w) (base := base) T
  refine T.F_Watching_clash_or_force.ok sc_Watching_clash_or_force (fun vs H Q E h => ?_) (fun cdv A outer s H vs Q E hr h => ?_)
  · obtain ⟨x, k, n, l, u, v, rfl, _⟩ := h
    rfl
  · obtain ⟨x, k, n, l, u, v, rfl, ok, b, hn, hy, h1, h2, h3⟩ := h
    refine ⟨_, (pss_cons (ps_set (i := 3) sc_Watching_clash_or_force.nd rfl (.inl rfl) (pe_meth (pv 0) T.cl_Watching T.M_Watching_other G_Watching_other (hr.mono (by first | decide | omega)) T.b_Watching_other .nil pass0 (pa_cons (pv 1) (pa_cons (pv 2) pa_nil))))
 (pss_cons (ps_if (pt_cmpR (OWN.op_inOwn T.in_Trail G_Trail_contains T.b_Trail_contains (hr.mono (by first | decide | omega))) (pe_un un_neg (pv 3)) (pe_fld (pv 0) rfl) rfl) (pss_one (ps_ret (pv 1))) pss_nil)
 (pss_cons (ps_if (pt_cmpR (OWN.op_ninOwn T.in_Trail G_Trail_contains T.b_Trail_contains (hr.mono (by first | decide | omega))) (pv 3) (pe_fld (pv 0) rfl) rfl) (pss_one (ps_expr (pe_meth (pe_fld (pv 0) rfl) T.cl_Trail T.M_Trail_force G_Trail_force (hr.mono (by first | decide | omega)) T.b_Trail_force .nil X2.passN (pa_cons (pv 3) (pa_cons (pv 1) pa_nil))))) pss_nil)
 (pss_one (ps_ret pe_non))))), ?_⟩
    refine Z.w_start (σ' := [some (.ref x.o), some (.int (n:Int)), some (.int l), none]) rfl ?_
    walk_at "w"
    refine w_meth0 ok.wa.obj rfl (by rfl) ?_
    walk_at "w"
    refine ⟨x, n, l, u, v, rfl, ok, hn, ?_⟩
    generalize (if u = l then v else u) = y at hy h1 h2 h3 ⊢
    walk_at "w"
    refine w_has ok ?_
    by_cases e1 : -y ∈ lits x.rs
    · rw [decide_eq_true e1]
      walk_at "w"
      exact h1 e1
    · rw [decide_eq_false e1]
      walk_at "w"
      refine w_hasN ok ?_
      by_cases e2 : y ∈ lits x.rs
      · rw [decide_eq_true e2]
        walk_at "w"
        exact h2 e1 e2
      · rw [decide_eq_false e2]
        walk_at "w"
        refine w_force (Tt := Tt) (n := n) (l := y) ok b hy e2 e1 rfl rfl fun H' d ok' => ?_
        walk_at "w"
        exact h3 e1 e2 _ d ok'
theorem keys_len' {x : WS} {k : Nat} (h : WB x k) {wl : List (Int × Addr)} (nd : (wl.map (·.1)).Nodup) (key : ∀ p ∈ wl, (p.1.natAbs : Int) ∈ x.ns) : wl.length ≤ 100 := by
  have e : (wl.map (·.1)).length ≤ (x.ns ++ x.ns.map (fun n => -n)).length := by
    refine WA.sub_len nd fun a ha => ?_
    obtain ⟨p, hp, rfl⟩ := List.mem_map.mp ha
    have q := key p hp
    rw [List.mem_append]
    by_cases z : 0 ≤ p.1
    · exact .inl (by rw [show (p.1.natAbs : Int) = p.1 by omega] at q; exact q)
    · exact .inr (List.mem_map.mpr ⟨_, q, by omega⟩)
  rw [List.length_map, List.length_append, List.length_map] at e
  have := h.nsl.1
  omega
theorem cs_mem {cs : List (Addr × List Int)} {n : Nat} {c : List Int} (h : (cs.map (·.2))[n]? = some c) : (cs.getD n (0, [])).1 = (cs.getD n (0, [])).1 ∧ ((cs.getD n (0, [])).1, c) ∈ cs := by
  rw [List.getElem?_map] at h
  obtain ⟨p, hp, rfl⟩ := Option.map_eq_some_iff.mp h
  rw [List.getD_eq_getElem?_getD, hp]
  exact ⟨rfl, List.mem_of_getElem? hp⟩
/-- the clause looks for another literal -/
def WS.mov (x : WS) (wl : List (Int × Addr)) (n : Nat) (y z : Int) : WS := { x with R := { x.R with wl := wl }, D := { x.D with wp := x.D.wp.set n [y, z], wt := addWt x.D.wt z n } }
def spMoves (K : PySem.W.Frag) (CT CW : Addr) (T : Tb) : Sp := fun vs H Q _ => ∃ (x : WS) (k n : Nat) (l u v y : Int) (c : List Int), vs = [.ref x.o, .int (n : Int), .int l] ∧ WOk K CT CW H x ∧ WB x k ∧ WA.LI x.D.cs.length x.D.wt ∧ x.D.wp[n]? = some [u, v] ∧ (if u = l then v else u) = y ∧ (x.D.cs.map (·.2))[n]? = some c ∧
  ((y ∈ lits x.rs ∨ ∀ z ∈ c, z ≠ l → z ≠ y → -z ∈ lits x.rs) → Q (.bl false) H) ∧
  (y ∉ lits x.rs → ∀ z ∈ c, z ≠ l → z ≠ y → -z ∉ lits x.rs → ∀ H' wl, DX T x.mut (x.mov wl n y z).mut H H' → WOk K CT CW H' (x.mov wl n y z) → WB (x.mov wl n y z) k → (∀ p ∈ x.R.wl, p ∈ wl) → Q (.bl true) H')
theorem ok_moves (T : Txt K mg) {Tt : Tb} : FnOk P w K mg base CX0 7 T.f_Watching_moves T.fd_Watching_moves ["self", "number", "literal"] (spMoves K T.C_Trail T.C_Watching Tt) := by
  have G_Watching_other := ok_other (P := P) (w := w) (base := base) T
  have G_Trail_contains := ok_has (P := P) (w := w) (base := base) T
  refine T.F_Watching_moves.ok sc_Watching_moves (fun vs H Q E h => ?_) (fun cdv A outer s H vs Q E hr h => ?_)
  · obtain ⟨x, k, n, l, u, v, y, c, rfl, _⟩ := h
    rfl
  · obtain ⟨x, k, n, l, u, v, y, c, rfl, ok, b, li, hn, ey, hc, h12, h3⟩ := h
    have h1 := fun a => h12 (.inl a)
    have h2 := fun (_ : y ∉ lits x.rs) b => h12 (.inr b)
    obtain ⟨ca, hca, hcS⟩ := cl_at ok.wa hc
    have hcl := ok.wa.cl
    refine ⟨_, (pss_cons (ps_set (i := 3) sc_Watching_moves.nd rfl (.inl rfl) (pe_meth (pv 0) T.cl_Watching T.M_Watching_other G_Watching_other (hr.mono (by first | decide | omega)) T.b_Watching_other .nil pass0 (pa_cons (pv 1) (pa_cons (pv 2) pa_nil))))
 (pss_cons (ps_if (pt_cmpR (OWN.op_inOwn T.in_Trail G_Trail_contains T.b_Trail_contains (hr.mono (by first | decide | omega))) (pv 3) (pe_fld (pv 0) rfl) rfl) (pss_one (ps_ret pe_bl)) pss_nil)
 (pss_cons (ps_for PassesOwn.never rfl (pi_tup (pe_ix ix_list (pe_fld (pv 0) rfl) (pv 1) (fun _ _ => rfl))) (pg_name (i := 4) sc_Watching_moves.nd rfl (.inl rfl)) (pss_one (ps_if (PW.pt (pw_and (pt_cmpR op_ne (pv 4) (pv 2) (nomark _)) (pw_and (pt_cmpR op_ne (pv 4) (pv 3) (nomark _)) (pw_and1 (pt_cmpR (OWN.op_ninOwn T.in_Trail G_Trail_contains T.b_Trail_contains (hr.mono (by first | decide | omega))) (pe_un un_neg (pv 4)) (pe_fld (pv 0) rfl) rfl))))) (pss_cons (ps_asg (pe_tup (pa_cons (pv 3) (pa_cons (pv 4) pa_nil))) (pg_sub (pe_fld (pv 0) rfl) (pv 1) set_list))
 (pss_cons (ps_expr (pe_bm PySem.F.plainAttrs_list PySem.F.slot_list_append PySem.F.type_list_append mt_append (pe_dsetd (pe_fld (pv 0) rfl) (pv 4) (pe_lst pa_nil) ⟨rfl, rfl, rfl, rfl⟩) (pa_cons (pv 1) pa_nil)))
 (pss_one (ps_ret pe_bl)))) pss_nil)))
 (pss_one (ps_ret pe_bl))))), ?_⟩
    refine Z.w_start (σ' := [some (.ref x.o), some (.int (n:Int)), some (.int l), none, none]) rfl ?_
    walk_at "w"
    refine w_meth0 ok.wa.obj rfl (by rfl) ?_
    walk_at "w"
    refine ⟨x, n, l, u, v, rfl, ok, hn, ?_⟩
    rw [ey]
    walk_at "w"
    refine w_has ok ?_
    by_cases e1 : y ∈ lits x.rs
    · rw [decide_eq_true e1]
      walk_at "w"
      exact h1 e1
    · rw [decide_eq_false e1]
      walk_at "w"
      refine w_fldT T.cl_Watching T.n_Watching__clauses ok.wa.obj rfl ?_
      walk_at "w"
      refine for_tup (xs := c.map V.int) (fun i σ H' => ∃ x4, σ = [some (.ref x.o), some (.int (n : Int)), some (.int l), some (.int y), x4] ∧ H' = H ∧ ∀ (j : Nat) (z : Int), j < i → c[j]? = some z → z ≠ l → z ≠ y → -z ∈ lits x.rs) ?_ ?_ ?_ ?_
      · exact ⟨_, rfl, rfl, fun j z hj => by omega⟩
      · rintro i σ H' hi ⟨x4, rfl, rfl, _⟩
        exact hcS
      · rintro i z0 σ H' hx ⟨x4, rfl, rfl, hf⟩
        rw [List.getElem?_map] at hx
        obtain ⟨z, hz, rfl⟩ := Option.map_eq_some_iff.mp hx
        have next : (z ≠ l → z ≠ y → -z ∈ lits x.rs) → ∀ (j : Nat) (z : Int), j < i + 1 → c[j]? = some z → z ≠ l → z ≠ y → -z ∈ lits x.rs := fun hh j z' hj hj' => by
          rcases Nat.lt_or_ge j i with q | q
          · exact hf j z' q hj'
          · have : j = i := by omega
            subst this
            rw [hz] at hj'
            rw [← Option.some.inj hj']
            exact hh
        walk_at "w"
        by_cases q1 : z = l
        · refine Z.w_iteNF (by first | exact q1 | exact congrArg V.int q1) ?_
          walk_at "w"
          first | exact ⟨_, rfl, rfl, next fun h => absurd q1 h⟩ | exact next fun h => absurd q1 h
        · refine Z.w_iteNT (by first | exact q1 | exact fun e => q1 (V.int.inj e)) ?_
          walk_at "w"
          by_cases q2 : z = y
          · refine Z.w_iteNF (by first | exact q2 | exact congrArg V.int q2) ?_
            walk_at "w"
            first | exact ⟨_, rfl, rfl, next fun _ h => absurd q2 h⟩ | exact next fun _ h => absurd q2 h
          · refine Z.w_iteNT (by first | exact q2 | exact fun e => q2 (V.int.inj e)) ?_
            walk_at "w"
            refine w_hasN ok ?_
            by_cases q3 : -z ∈ lits x.rs
            · rw [decide_eq_true q3]
              walk_at "w"
              first | exact ⟨_, rfl, rfl, next fun _ _ => q3⟩ | exact next fun _ _ => q3
            · rw [decide_eq_false q3]
              have zc : z ∈ c := List.mem_of_getElem? hz
              walk_at "w"
              rename_i p hp
              have ok1 := ok.same (same_of (Same.refl _) hp (o := .tup [.int y, .int z]))
              obtain ⟨wt, hw, hwl, hws⟩ := ok1.wa.wa
              have hnl : n < wt.length := by rw [hwl]; exact (List.getElem?_eq_some_iff.mp hn).1
              have hp1 : upd H' p (.tup [.int y, .int z]) p = some (.tup [.int y, .int z]) := upd_same
              refine w_fldT T.cl_Watching T.n_Watching__watched ok1.wa.obj rfl ?_
              walk_at "w"
              refine Z.w_setLh (ys := (wt.set n p).map V.ref) hw (j := n) (by rw [List.length_map]; exact Evl.ixN_nat hnl) (by rw [List.map_set]) ?_
              have mw : x.R.lw ∈ x.wm := List.mem_append_left _ (by simp)
              have ok2 := ok1.put mw (ok1.wa.setW hw hwl (wt.set n p) (x.D.wp.set n [y, z]) (by rw [List.length_set, List.length_set, hwl]) (fun m a' ws e1 e2 => by
                by_cases e : m = n
                · rw [e, List.getElem?_set_self hnl] at e1
                  rw [e, List.getElem?_set_self (by omega)] at e2
                  rw [← Option.some.inj e1, ← Option.some.inj e2]
                  exact .inl (.inl hp1)
                · rw [List.getElem?_set_ne (Ne.symm e)] at e1 e2
                  exact hws m a' ws e1 e2)) (fun c hc => .inl hc)
              have d2 : DX Tt x.mut x.mut H' (upd (upd H' p (.tup [.int y, .int z])) x.R.lw (.lst ((wt.set n p).map V.ref))) := ((DX.refl x.mut H').new0 hp).put' (List.mem_append_right _ mw) hw trivial
              generalize upd (upd H' p (.tup [.int y, .int z])) x.R.lw (.lst ((wt.set n p).map V.ref)) = H2 at ok2 d2 ⊢
              have kl := keys_len' b ok.wa.wk b.key
              have ll := li.len z
              walk_at "w"
              refine w_addn (x := { x with D := { x.D with wp := x.D.wp.set n [y, z] } }) (T := T) (Tt := Tt) (i := 3) (j := 0) (n := n) (l := z) ok2 (show x.R.wl.length ≤ 1000 by omega) (show (x.D.wt z).length ≤ 1000 by have := b.cln; omega) rfl rfl fun H3 wl d3 ok3 key' keep => ?_
              walk_at "w"
              refine h3 e1 z zc q1 q2 q3 H3 wl (d2.trans d3) ok3 ⟨b.vis, b.sle, b.ti, b.lit, b.cl, b.nsb, b.nsl, b.frl, b.fln, b.cln, b.frn, b.son, fun q hq => ?_⟩ keep
              rcases key' q hq with e | ⟨q', hq', e⟩
              · rw [e]
                exact (b.cl _ (cs_mem hc).2).2 z zc
              · rw [← e]
                exact b.key q' hq'
      · rintro σ H' ⟨x4, rfl, rfl, hf⟩
        walk_at "w"
        refine h2 e1 fun z hz n1 n2 => ?_
        obtain ⟨j, hj⟩ := List.mem_iff_getElem?.mp hz
        exact hf j z (by rw [List.length_map]; exact (List.getElem?_eq_some_iff.mp hj).1) hj n1 n2
end
end L

namespace L
open PySem PySem.Spec PyProof.Rows L2 Z M MR MT X2
open _root_.SX (S S_len S_cat S_inj)
section
variable {P : Program} {w : World} {K : PySem.W.Frag} {mg : Str → Option Value} {base : Heap}
/-- the literals of a clause that are not false -/
def hop (rs : List TRow) (c : List Int) : List Int := c.filter fun l => !decide (-l ∈ lits rs)
theorem over_len {ns xs : List Int} (hn : ns.length ≤ 50) (nd : xs.Nodup) (h : ∀ l ∈ xs, (l.natAbs : Int) ∈ ns) : xs.length ≤ 100 := by
  have e : xs.length ≤ (ns ++ ns.map (fun n => -n)).length := by
    refine WA.sub_len nd fun a ha => ?_
    have q := h a ha
    rw [List.mem_append]
    by_cases z : 0 ≤ a
    · exact .inl (by rw [show (a.natAbs : Int) = a by omega] at q; exact q)
    · exact .inr (List.mem_map.mpr ⟨_, q, by omega⟩)
  rw [List.length_append, List.length_map] at e
  omega
theorem inv_len {x : WS} {k : Nat} (b : WB x k) {n : Nat} {c : List Int} (hc : (x.D.cs.map (·.2))[n]? = some c) : c.length ≤ 100 := by
  obtain ⟨h1, h2⟩ := b.cl _ (cs_mem hc).2
  exact over_len b.nsl.1 h1 h2
theorem hop_mem {rs : List TRow} {c : List Int} {l : Int} : l ∈ hop rs c ↔ l ∈ c ∧ -l ∉ lits rs := by
  unfold hop
  rw [List.mem_filter]
  simp
theorem w_notL {i : Nat} {D : Addr} {xs : List V} {σ : L2.St} {H : Hp} {Q : VK} (hσ : σ[i]? = some (some (.ref D))) (hD : H D = some (.lst xs)) (q : Q (.bl xs.isEmpty) H) : tNotT K (tVar i) σ H Q :=
  Z.w_var (v := V.ref D) hσ ⟨!xs.isEmpty, .inl ⟨xs, .inl (.inl hD), rfl⟩, by rw [Bool.not_not]; exact q⟩
theorem use_force {T : Txt K mg} {Tt : Tb} {H : Hp} {x : WS} {k n : Nat} {l : Int} {Q : VK} (ok : WOk K T.C_Trail T.C_Watching H x) (b : WB x k) (hl : (l.natAbs : Int) ∈ x.ns) (h1 : l ∉ lits x.rs) (h2 : -l ∉ lits x.rs)
    (q : ∀ H', DX Tt x.mut (x.frc l n).mut H H' → WOk K T.C_Trail T.C_Watching H' (x.frc l n) → Q .non H') : spDo T.C_Trail T.C_BadLiteral false [.ref x.tr, .int l, .int (n : Int)] H Q E0 := by
  have rl := b.rl
  have hv : val x.rs l = .non := by
    unfold val
    rw [if_neg h1, if_neg h2]
  refine ⟨x.tr, x.t, x.ns, x.rs, l, (n : Int), rfl, ok.ta, (b.nz hl).2, by omega, fun _ H' d ta => ?_, fun z => absurd ⟨hl, hv⟩ z⟩
  exact q H' (ok.trD d) (ok.trX d ta)
def spFoF (K : PySem.W.Frag) (CT CW : Addr) (T : Tb) : Sp := fun vs H Q _ => ∃ (x : WS) (k n : Nat) (c : List Int), vs = [.ref x.o, .int (n : Int)] ∧ WOk K CT CW H x ∧ WB x k ∧ (x.D.cs.map (·.2))[n]? = some c ∧
  (hop x.rs c = [] → ∀ H', DX T x.mut x.mut H H' → WOk K CT CW H' x → Q (.bl true) H') ∧
  (hop x.rs c ≠ [] → (∀ l, hop x.rs c = [l] → l ∈ lits x.rs) → ∀ H', DX T x.mut x.mut H H' → WOk K CT CW H' x → Q (.bl false) H') ∧
  (∀ l, hop x.rs c = [l] → l ∉ lits x.rs → ∀ H', DX T x.mut (x.frc l n).mut H H' → WOk K CT CW H' (x.frc l n) → Q (.bl false) H')
theorem ok_fof (T : Txt K mg) {Tt : Tb} : FnOk P w K mg base CX0 7 T.f_Watching_is_false_or_forces T.fd_Watching_is_false_or_forces ["self", "number"] (spFoF K T.C_Trail T.C_Watching Tt) := by
  have G_Trail_contains := ok_has (P := P) (w := w) (base := base) T
  have G_Trail_force := ok_force (P := P) (w := w) (base := base) T
  refine T.F_Watching_is_false_or_forces.ok sc_Watching_is_false_or_forces (fun vs H Q E h => ?_) (fun cdv A outer s H vs Q E hr h => ?_)
  · obtain ⟨x, k, n, c, rfl, _⟩ := h
    rfl
  · obtain ⟨x, k, n, c, rfl, ok, b, hc, h1, h2, h3⟩ := h
    obtain ⟨ca, hca, hcS⟩ := cl_at ok.wa hc
    have hcl := ok.wa.cl
    refine ⟨_, (pss_cons (ps_setLc (i := 2) (own := [("literal", 3)]) (g := gName 3) (by rfl) sc_Watching_is_false_or_forces.nd rfl rfl (sw_true rfl rfl rfl (by decide +kernel)) (pi_tup (pe_ix ix_list (pe_fld (pv 0) rfl) (pv 1) (fun _ _ => rfl))) (blkOk_by (own := [("literal", 3)]) (N := N_Watching_is_false_or_forces) (sc := defScope s_Watching_is_false_or_forces) (by decide +kernel)) (fun _ _ _ _ _ => pg_name (i := 3) sc_Watching_is_false_or_forces.nd rfl (Or.inl rfl)) (fun _ _ _ _ _ => pts_one (pt_cmpR (OWN.op_ninOwn T.in_Trail G_Trail_contains T.b_Trail_contains (hr.mono (by first | decide | omega))) (pe_un un_neg (pv 3)) (show PE _ _ (tFld K _ _) from pe_fld (pv 0) rfl) rfl)) (fun _ _ _ _ _ => (pv 3)))
 (pss_cons (ps_if (PW.pt (pw_and (pt_cmpR op_eq (pe_callB call_len_seq (by rfl) T.m_len (by decide +kernel) (pa_cons (pv 2) pa_nil)) pe_int (nomark _)) (pw_and1 (pt_cmpR (OWN.op_ninOwn T.in_Trail G_Trail_contains T.b_Trail_contains (hr.mono (by first | decide | omega))) (pe_ix ix_list (pv 2) pe_int (fun _ _ => rfl)) (pe_fld (pv 0) rfl) rfl)))) (pss_one (ps_expr (pe_meth (pe_fld (pv 0) rfl) T.cl_Trail T.M_Trail_force G_Trail_force (hr.mono (by first | decide | omega)) T.b_Trail_force .nil X2.passN (pa_cons (pe_ix ix_list (pv 2) pe_int (fun _ _ => rfl)) (pa_cons (pv 1) pa_nil))))) pss_nil)
 (pss_one (ps_ret (pe_notT (pv 2)))))), ?_⟩
    refine Z.w_start (σ' := [some (.ref x.o), some (.int (n:Int)), none, none]) rfl ?_
    walk_at "w"
    refine w_fldT T.cl_Watching T.n_Watching__clauses ok.wa.obj rfl ?_
    walk_at "w"
    intro D hD
    refine lc_tup (K := K) (a := ca) (xs := c.map V.int) (fun i H' => Same H H' ∧ i ≤ c.length ∧ H' D = some (.lst ((hop x.rs (c.take i)).map V.int))) ?_ ?_ ?_ ?_
    · exact ⟨same_of (Same.refl _) hD, Nat.zero_le _, upd_same⟩
    · rintro i H' hi ⟨sm, _, _⟩
      exact Evl.ex_t sm hcS
    · rintro i y H' hx ⟨sm, hi, hDl⟩
      rw [List.getElem?_map] at hx
      obtain ⟨l, hl, rfl⟩ := Option.map_eq_some_iff.mp hx
      have hil := (List.getElem?_eq_some_iff.mp hl).1
      have ok1 := ok.same sm
      have et : c.take (i + 1) = c.take i ++ [l] := by rw [List.take_add_one, hl]; rfl
      refine Z.w_gname (σ' := [some (.ref x.o), some (.int (n : Int)), none, some (.int l)]) rfl ⟨rfl, ?_⟩
      walk_at "w"
      refine w_hasN ok1 ?_
      by_cases e : -l ∈ lits x.rs
      · rw [decide_eq_true e]
        walk_at "w"
        refine ⟨sm, by omega, ?_⟩
        rw [et]
        unfold hop at hDl ⊢
        rw [List.filter_append, List.filter_cons, if_neg (by simp [e]), List.filter_nil, List.append_nil]
        exact hDl
      · rw [decide_eq_false e]
        walk_at "w"
        refine ⟨_, hDl, ?_, same_mut sm hD, by omega, ?_⟩
        · rw [List.length_map]
          unfold hop
          have := List.length_filter_le (fun l => !decide (-l ∈ lits x.rs)) (c.take i)
          rw [List.length_take] at this
          have := inv_len b hc
          exact Nat.lt_of_le_of_lt (show _ ≤ 100 by omega) (by decide)
        · rw [upd_same, et]
          unfold hop
          rw [List.filter_append, List.filter_cons, if_pos (by simp [e]), List.filter_nil, List.map_append]
          rfl
    · rintro H' ⟨sm, _, hDl⟩
      rw [List.length_map, List.take_of_length_le (Nat.le_refl _)] at hDl
      have ok1 := ok.same sm
      have d1 : DX Tt x.mut x.mut H H' := (DX.refl _ _).same sm
      generalize eh : hop x.rs c = hs at hDl h1 h2 h3
      walk_at "w"
      match hs, eh, hDl, h1, h2, h3 with
      | [], eh, hDl, h1, h2, h3 =>
        refine Z.w_iteF (by simp) ?_
        walk_at "w"
        exact w_notL rfl hDl (h1 rfl _ d1 ok1)
      | [l], eh, hDl, h1, h2, h3 =>
        have hl : (l.natAbs : Int) ∈ x.ns := (b.cl _ (cs_mem hc).2).2 l (hop_mem.mp (by rw [eh]; exact List.mem_singleton.mpr rfl)).1
        have nl : -l ∉ lits x.rs := (hop_mem.mp (by rw [eh]; exact List.mem_singleton.mpr rfl : l ∈ hop x.rs c)).2
        refine Z.w_iteT (by simp) ?_
        walk_at "w"
        refine w_hasN ok1 ?_
        by_cases e2 : l ∈ lits x.rs
        · rw [decide_eq_true e2]
          walk_at "w"
          exact w_notL rfl hDl (h2 (by simp) (fun l' z => (List.cons.inj z).1 ▸ e2) _ d1 ok1)
        · rw [decide_eq_false e2]
          walk_at "w"
          refine w_methF (w_fldT T.cl_Watching T.n_Watching__trail ok1.wa.obj rfl ⟨x.tr, x.t.dx, _, rfl, ok1.ta.obj, by rfl, ?_⟩)
          walk_at "w"
          refine use_force (Tt := Tt) ok1 b hl e2 nl fun H2 d2 ok2 => ?_
          have hD2 : H2 D = some (.lst [.int l]) := d2.kp D _ (fun z => by
            obtain ⟨y, e, _⟩ := ok.mu D z
            rw [hD] at e
            cases e) (fun ps z => by cases z) hDl
          walk_at "w"
          exact w_notL rfl hD2 (h3 l rfl e2 _ (d1.trans d2) ok2)
      | l :: l2 :: r, eh, hDl, h1, h2, h3 =>
        refine Z.w_iteF (by simp; omega) ?_
        walk_at "w"
        refine w_notL rfl hDl (h2 (by simp) (fun l z => by simp at z) _ d1 ok1)
end
end L

namespace WA
theorem CI.step_fresh {t : Tr} {d k n : Nat} {cs wp : List (List Int)} {fg : Nat → Bool} {fr : List Nat} {wt : Int → List Nat} (C : CI t d (fun _ => k) cs wp fg (n :: fr) wt) (h : ∀ c w, cs[n]? = some c → wp[n]? = some w → fg n = false → One t d k c true w → One t d k c false w) : CI t d (fun _ => k) cs wp fg fr wt := by
  refine ⟨C.wl, fun m c w hc hw hf => ?_, C.cnt⟩
  have o := C.one m c w hc hw hf
  by_cases e : m = n
  · subst e
    rw [show decide (m ∈ m :: fr) = true by simp] at o
    by_cases hm : m ∈ fr
    · rw [decide_eq_true hm]
      exact o
    · rw [decide_eq_false hm]
      exact h c w hc hw hf o
  · rw [show decide (m ∈ n :: fr) = decide (m ∈ fr) by simp [e]] at o
    exact o
end WA
namespace L
open PySem PySem.Spec PyProof.Rows L2 Z M MR
/-- the fresh ones are fewer -/
def WS.fre (x : WS) (fr : List Nat) : WS := { x with D := { x.D with fr := fr } }
theorem WInv.step_fresh {x : WS} {k n : Nat} {fr : List Nat} (h : WInv (x.fre (n :: fr)) k) (hn : ∀ c w, (x.D.cs.map (·.2))[n]? = some c → x.D.wp[n]? = some w → x.D.fg.getD n false = false → WA.One (tl x.rs) (dep x.rs) k c true w → WA.One (tl x.rs) (dep x.rs) k c false w) : WInv (x.fre fr) k := by
  have ci := WA.CI.step_fresh (C := h.ci) hn
  refine ⟨h.vis, h.sle, h.ti, h.lit, h.cl, h.nsb, h.nsl, ci, h.li, fun m hm => h.frl m (List.mem_cons_of_mem _ hm), h.fln, h.cln, ?_, h.son, h.key⟩
  have := h.frn
  exact Nat.le_trans (Nat.le_succ _) this
theorem fre_frc (x : WS) (fr : List Nat) (l : Int) (n : Nat) : (x.fre fr).frc l n = (x.frc l n).fre fr := rfl
/-- what a literal means for one that isn't false -/
theorem hop_nil {rs : List TRow} {c : List Int} (h : hop rs c = []) : ∀ l ∈ c, -l ∈ lits rs := fun l hl => by
  by_cases e : -l ∈ lits rs
  · exact e
  · have := hop_mem.mpr ⟨hl, e⟩
    rw [h] at this
    cases this
theorem hop_one {rs : List TRow} {c : List Int} {l : Int} (h : hop rs c = [l]) : l ∈ c ∧ -l ∉ lits rs ∧ ∀ y ∈ c, y ≠ l → -y ∈ lits rs := by
  obtain ⟨h1, h2⟩ := hop_mem.mp (by rw [h]; exact List.mem_singleton.mpr rfl : l ∈ hop rs c)
  refine ⟨h1, h2, fun y hy hn => ?_⟩
  by_cases e : -y ∈ lits rs
  · exact e
  · have := hop_mem.mpr ⟨hy, e⟩
    rw [h] at this
    exact absurd (List.mem_singleton.mp this) hn
theorem hop_single {rs : List TRow} {c : List Int} (nd : c.Nodup) {l : Int} (hl : l ∈ hop rs c) (h : ∀ y ∈ c, y ≠ l → -y ∈ lits rs) : hop rs c = [l] := by
  have all : ∀ y ∈ hop rs c, y = l := fun y hy => by
    obtain ⟨h1, h2⟩ := hop_mem.mp hy
    by_cases e : y = l
    · exact e
    · exact absurd (h y h1 e) h2
  have nd2 : (hop rs c).Nodup := nd.sublist List.filter_sublist
  match hc : hop rs c with
  | [] => rw [hc] at hl; cases hl
  | [a] => rw [all a (by rw [hc]; exact List.mem_singleton.mpr rfl)]
  | a :: b :: r =>
    rw [hc] at nd2
    have e1 := all a (by rw [hc]; exact List.mem_cons_self)
    have e2 := all b (by rw [hc]; exact List.mem_cons_of_mem _ List.mem_cons_self)
    rw [List.nodup_cons] at nd2
    exact absurd (by rw [e1, e2]; exact List.mem_cons_self) nd2.1
theorem WInv.lf {x : WS} {k : Nat} (h : WInv x k) (q : Addr) : WInv { x with R := { x.R with lf := q } } k := ⟨h.vis, h.sle, h.ti, h.lit, h.cl, h.nsb, h.nsl, h.ci, h.li, h.frl, h.fln, h.cln, h.frn, h.son, h.key⟩
theorem WB.unfre {x : WS} {k : Nat} {fr : List Nat} (b : WB (x.fre fr) k) (h1 : ∀ n ∈ x.D.fr, n < x.D.cs.length) (h2 : x.D.fr.length ≤ x.D.cs.length) : WB x k := ⟨b.vis, b.sle, b.ti, b.lit, b.cl, b.nsb, b.nsl, h1, b.fln, b.cln, h2, b.son, b.key⟩
/-- one that isn't false is no longer fresh -/
theorem one_done {rs : List TRow} {k : Nat} {c w : List Int} (ti : WA.TI (tl rs) (dep rs) k) (nd : c.Nodup) (nz : ∀ l ∈ c, l ≠ 0) (hn : hop rs c ≠ []) (h : ∀ l, hop rs c = [l] → l ∈ lits rs) (o : WA.One (tl rs) (dep rs) k c true w) : WA.One (tl rs) (dep rs) k c false w := by
  obtain ⟨l, hl⟩ : ∃ l, l ∈ hop rs c := by
    match hop rs c, hn with
    | a :: r, _ => exact ⟨a, List.mem_cons_self⟩
    | [], hn => exact absurd rfl hn
  obtain ⟨h1, h2⟩ := hop_mem.mp hl
  refine WA.fresh_done ti nz o h1 (by rw [tl_lits]; exact h2) fun hall => ?_
  refine WA.At.of ?_
  rw [tl_lits]
  exact h l (hop_single nd hl fun y hy hne => by have := hall y hy hne; rwa [tl_lits] at this)
end L

namespace L
open PySem PySem.Spec PyProof.Rows L2 Z M MR MT X2
open _root_.SX (S S_len S_cat S_inj)
section
variable {P : Program} {w : World} {K : PySem.W.Frag} {mg : Str → Option Value} {base : Heap}
def spFresh (K : PySem.W.Frag) (CT CW : Addr) (T : Tb) : Sp := fun vs H Q _ => ∃ (x : WS) (k : Nat), vs = [.ref x.o] ∧ WOk K CT CW H x ∧ WInv x k ∧
  (∀ H' x', DX T x.mut x'.mut H H' → WOk K CT CW H' x' → Ext x x' → WInv x' k → x'.D.fr = [] → Q .non H') ∧
  (∀ H' x' n c, DX T x.mut x'.mut H H' → WOk K CT CW H' x' → Ext x x' → WInv x' k → (x.D.cs.map (·.2))[n]? = some c → x.D.fg.getD n false = false → (∀ l ∈ c, -l ∈ lits x'.rs) → Q (.int (n : Int)) H')
theorem w_iEnum {ta : TA} {σ : L2.St} {H : Hp} {R : It → Hp → Prop} (h : ta σ H fun vs H1 => ∃ a xs, vs = [.ref a] ∧ SqL K H1 a xs ∧ R (Ite K a) H1) : iEnum K ta σ H R := h
def WS.nfr (y : WS) (q : Addr) (fr : List Nat) : WS := { y with R := { y.R with lf := q }, D := { y.D with fr := fr } }
/-- self._fresh = a new list -/
theorem asg_fresh {Tt : Tb} {CT CW : Addr} {H : Hp} {y : WS} {q : Addr} (ok3 : WOk K CT CW H y) (hq : H q = none) (fr : List Nat) : DX Tt y.mut (y.nfr q fr).mut H (upd (upd H q (.lst (nV fr))) y.o (.ins CW y.R.dx (WR.fs { y.R with lf := q } y.tr y.D.sn))) ∧ WOk K CT CW (upd (upd H q (.lst (nV fr))) y.o (.ins CW y.R.dx (WR.fs { y.R with lf := q } y.tr y.D.sn))) (y.nfr q fr) := by
  have ok4 := ok3.same (same_of (Same.refl _) hq (o := .lst (nV fr)))
  obtain ⟨nq1, nq2⟩ := ok3.fresh hq
  have mo : y.o ∈ y.wm := List.mem_append_left _ (by simp)
  have hs : ∀ c ∈ wmut y.o { y.R with lf := q }, c = q ∨ c ∈ y.wm := fun c hc => by
    rcases List.mem_append.mp hc with hc | hc
    · simp only [List.mem_cons, List.not_mem_nil, or_false] at hc
      rcases hc with z | z | z | z | z | z | z
      · exact .inr (List.mem_append_left _ (by simp [z]))
      · exact .inr (List.mem_append_left _ (by simp [z]))
      · exact .inr (List.mem_append_left _ (by simp [z]))
      · exact .inr (List.mem_append_left _ (by simp [z]))
      · exact .inr (List.mem_append_left _ (by simp [z]))
      · exact .inr (List.mem_append_left _ (by simp [z]))
      · exact .inl z
    · exact .inr (List.mem_append_right _ hc)
  refine ⟨?_, ok4.put mo (ok4.wa.newF fr upd_same nq1) (fun c hc => (hs c hc).elim (fun e => .inr (by rw [e]; exact nq2)) .inl)⟩
  refine (((DX.refl y.mut H).new hq).put' (List.mem_cons_of_mem _ (List.mem_append_right _ mo)) ok4.wa.obj trivial).sub fun c hc => ?_
  rcases List.mem_append.mp hc with hc | hc
  · exact List.mem_cons_of_mem _ (List.mem_append_left _ hc)
  · rcases hs c hc with e | e
    · rw [e]; exact List.mem_cons_self
    · exact List.mem_cons_of_mem _ (List.mem_append_right _ e)
/-- within the loop: i of the fresh ones were looked at -/
structure FrAt (K : PySem.W.Frag) (CT CW : Addr) (T : Tb) (H H' : Hp) (x y : WS) (k i : Nat) : Prop where
  dx : DX T x.mut y.mut H H'
  ok : WOk K CT CW H' y
  ext : Ext x y
  R : y.R = x.R
  fr : y.D.fr = x.D.fr
  inv : WInv (y.fre (x.D.fr.drop i)) k
theorem ok_fresh (T : Txt K mg) {Tt : Tb} : FnOk P w K mg base CX0 8 T.f_Watching_look_at_fresh T.fd_Watching_look_at_fresh ["self"] (spFresh K T.C_Trail T.C_Watching Tt) := by
  have G_Watching_is_false_or_forces := ok_fof (P := P) (w := w) (base := base) T (Tt := Tt)
  refine T.F_Watching_look_at_fresh.ok sc_Watching_look_at_fresh (fun vs H Q E h => ?_) (fun cdv A outer s H vs Q E hr h => ?_)
  · obtain ⟨x, k, rfl, _⟩ := h
    rfl
  · obtain ⟨x, k, rfl, ok, inv, h1, h2⟩ := h
    have hfr := ok.wa.fr
    refine ⟨_, (pss_cons (ps_set (i := 1) sc_Watching_look_at_fresh.nd rfl (.inl rfl) (pe_fld (pv 0) rfl))
 (pss_cons (ps_for PassesOwn.never rfl (pi_enum (by rfl) T.m_enumerate (pa_cons (pv 1) pa_nil)) (pg_tup (by rfl) (pgs_cons (pg_name (i := 2) sc_Watching_look_at_fresh.nd rfl (.inl rfl)) (pgs_cons (pg_name (i := 3) sc_Watching_look_at_fresh.nd rfl (.inl rfl)) pgs_nil))) (pss_one (ps_if (PW.pt (pw_and (pt_cmp (pc_dnotin (hu_of hr) (pv 3) (pe_fld (pv 0) rfl))) (pw_and1 (pt_val (pe_meth (pv 0) T.cl_Watching T.M_Watching_is_false_or_forces G_Watching_is_false_or_forces (hr.mono (by first | decide | omega)) T.b_Watching_is_false_or_forces .nil pass0 (pa_cons (pv 3) pa_nil)))))) (pss_cons (ps_fld (pv 0) (pe_slice sl_list (pv 1) (po_some (pv 2)) po_none) rfl)
 (pss_one (ps_ret (pv 3)))) pss_nil)))
 (pss_cons (ps_fld (pv 0) (pe_lst pa_nil) rfl)
 (pss_one (ps_ret pe_non))))), ?_⟩
    refine Z.w_start (σ' := [some (.ref x.o), none, none, none]) rfl ?_
    walk_at "w"
    refine w_fldT T.cl_Watching T.n_Watching__fresh ok.wa.obj rfl ?_
    walk_at "w"
    refine w_iEnum (Z.w_cons (Z.w_var (v := V.ref x.R.lf) rfl (Z.w_nil ⟨x.R.lf, _, rfl, .inl (.inl hfr), ?_⟩)))
    refine for_it (walk_enum (K := K) (a := x.R.lf) (xs := nV x.D.fr)) (fun i σ H' => ∃ x2 x3 y, σ = [some (.ref x.o), some (.ref x.R.lf), x2, x3] ∧ FrAt K T.C_Trail T.C_Watching Tt H H' x y k i) ?_ ?_ ?_ ?_
    · exact ⟨_, _, x, rfl, DX.refl _ _, ok, Ext.refl x, rfl, rfl, by rw [List.drop_zero]; exact inv⟩
    · rintro i σ H' hi ⟨x2, x3, y, rfl, f⟩
      have := f.ok.wa.fr
      rw [f.R, f.fr] at this
      exact .inl (.inl this)
    · rintro i v σ H1 H2 hi ⟨x2, x3, y, rfl, f⟩ ⟨t0, a, b, rfl, ht0, rfl, ea, eb⟩
      obtain rfl := Option.some.inj ea
      have hir : i < x.D.fr.length := by rw [nV_len] at hi; exact hi
      have en : x.D.fr[i]? = some x.D.fr[i] := List.getElem?_eq_getElem hir
      have eb2 : b = .int (x.D.fr[i] : Int) := by
        have eb : (x.D.fr.map fun n : Nat => V.int (n : Int))[i]? = some b := eb
        rw [List.getElem?_map, en] at eb
        exact (Option.some.inj eb).symm
      subst eb2
      generalize hn : x.D.fr[i] = n at en
      have ed : x.D.fr.drop i = n :: x.D.fr.drop (i + 1) := by rw [List.drop_eq_getElem_cons hir, hn]
      have eo : y.o = x.o := f.ext.o
      have ok1 := f.ok.same (same_of (Same.refl _) ht0 (o := .tup [.int (i : Int), .int (n : Int)]))
      have d1 := f.dx.new0 (u := .tup [.int (i : Int), .int (n : Int)]) ht0
      have finv := f.inv
      rw [ed] at finv
      obtain ⟨kf, hkf, _, hgv⟩ := ok1.wa.df
      have ht1 : upd H1 t0 (.tup [.int (i : Int), .int (n : Int)]) t0 = some (.tup [.int (i : Int), .int (n : Int)]) := upd_same
      have hnc : n < x.D.cs.length := inv.frl n (List.mem_of_getElem? en)
      obtain ⟨c, hc⟩ : ∃ c, (y.D.cs.map (·.2))[n]? = some c := by
        rw [f.ext.cs]
        exact ⟨_, List.getElem?_eq_getElem (by rw [List.length_map]; exact hnc)⟩
      rw [← eo]
      have by_ : WB y k := f.inv.b.unfre (fun m hm => by rw [f.ext.cs]; rw [f.fr] at hm; exact inv.frl m hm) (by rw [f.ext.cs, f.fr]; exact inv.frn)
      have hcl := by_.cl _ (cs_mem hc).2
      have nz : ∀ l ∈ c, l ≠ 0 := fun l hl => (by_.nz (hcl.2 l hl)).1
      have hfr1 := ok1.wa.fr
      rw [f.R, f.fr] at hfr1
      have dropV : (nV x.D.fr).drop i = nV (x.D.fr.drop i) := List.map_drop.symm
      walk_at "w"
      refine w_fldT T.cl_Watching T.n_Watching__forgotten ok1.wa.obj rfl ?_
      refine ⟨y.R.df, _, rfl, DGet.k (k := Sum.inl (n : Int)) hkf, ?_⟩
      rw [hgv]
      cases hg : y.D.fg.getD n false with
      | true =>
        walk_at "w"
        rw [eo]
        refine ⟨_, _, y, rfl, d1, ok1, f.ext, f.R, f.fr, ?_⟩
        exact finv.step_fresh fun c w _ _ hf => by
          have hf : y.D.fg.getD n false = false := hf
          rw [hg] at hf
          cases hf
      | false =>
        walk_at "w"
        refine w_meth0 ok1.wa.obj rfl (by rfl) ?_
        walk_at "w"
        refine ⟨y, k, n, c, rfl, ok1, by_, hc, fun hh H3 d3 ok3 => ?_, fun hh1 hh2 H3 d3 ok3 => ?_, fun l hh hl H3 d3 ok3 => ?_⟩
        · have hfr3 := ok3.wa.fr
          rw [f.R, f.fr] at hfr3
          walk_at "w"
          refine L.w_fld ?_
          walk_at "w"
          refine w_slFrom (.inl (.inl hfr3)) (by rw [nV_len]; exact Nat.le_of_lt hir) fun q hq => ?_
          rw [dropV]
          obtain ⟨d5, ok5⟩ := asg_fresh (Tt := Tt) ok3 hq (x.D.fr.drop i)
          have ob4 := (ok3.same (same_of (Same.refl _) hq (o := .lst (nV (x.D.fr.drop i))))).wa.obj
          walk_at "w"
          refine ⟨y.o, T.C_Watching, y.R.dx, _, rfl, ob4, T.cl_Watching, T.n_Watching__fresh, (show 8 < 1000 by decide), ?_⟩
          walk_at "w"
          refine h2 _ (y.nfr q (x.D.fr.drop i)) n c (d1.trans (d3.trans d5)) ok5 (f.ext.trans ⟨rfl, rfl, rfl, rfl, rfl, rfl, rfl, .refl, List.prefix_refl _⟩) (f.inv.lf q) (by rw [← f.ext.cs]; exact hc) (by rw [← f.ext.fg]; exact hg) (hop_nil hh)
        · walk_at "w"
          rw [eo]
          refine ⟨_, _, y, rfl, d1.trans d3, ok3, f.ext, f.R, f.fr, finv.step_fresh fun c' w hc' hw' hf o => ?_⟩
          have e : c = c' := Option.some.inj (hc.symm.trans hc')
          subst e
          exact one_done by_.ti hcl.1 nz hh1 hh2 o
        · have ho := hop_one hh
          have gr : GRow (y.D.cs.map (·.2)) y.D.fg y.rs (l, some (n : Int)) := ⟨n, c, rfl, hc, hg, ho.1, hl, ho.2.1, ho.2.2⟩
          walk_at "w"
          rw [eo]
          refine ⟨_, _, y.frc l n, rfl, d1.trans d3, ok3, f.ext.trans (frc_ext gr), f.R, f.fr, ?_⟩
          have q := WInv.frc finv (hcl.2 l ho.1) hl ho.2.1 (n := n)
          refine WInv.step_fresh (x := y.frc l n) (n := n) (fr := x.D.fr.drop (i + 1)) q fun c' w hc' hw' hf o => ?_
          have e : c = c' := Option.some.inj (hc.symm.trans hc')
          subst e
          have ti2 := q.ti
          have lin : l ∈ lits (y.frc l n).rs := by
            show l ∈ lits (y.rs ++ [(l, some (n : Int))])
            rw [lits_snoc]
            exact List.mem_append_right _ (List.mem_singleton.mpr rfl)
          refine WA.fresh_done ti2 nz o ho.1 ?_ fun _ => WA.At.of (by rw [tl_lits]; exact lin)
          rw [tl_lits]
          show -l ∉ lits (y.rs ++ [(l, some (n : Int))])
          rw [lits_snoc, List.mem_append, not_or]
          refine ⟨ho.2.1, fun z => ?_⟩
          have := nz l ho.1
          have := List.mem_singleton.mp z
          omega
    · rintro σ H' ⟨x2, x3, y, rfl, f⟩
      have eo : y.o = x.o := f.ext.o
      rw [← eo]
      walk_at "w"
      refine L.w_fld (Z.w_lst (Z.w_nil ⟨Nat.zero_le _, fun q hq => ?_⟩))
      obtain ⟨d5, ok5⟩ := asg_fresh (Tt := Tt) f.ok hq []
      have ob4 := (f.ok.same (same_of (Same.refl _) hq (o := .lst (nV [])))).wa.obj
      refine Z.w_var (v := V.ref y.o) rfl ⟨y.o, T.C_Watching, y.R.dx, _, rfl, ob4, T.cl_Watching, T.n_Watching__fresh, (show 8 < 1000 by decide), ?_⟩
      walk_at "w"
      have fi := f.inv
      rw [List.drop_of_length_le (by rw [nV_len]; exact Nat.le_refl _)] at fi
      exact h1 _ (y.nfr q []) (f.dx.trans d5) ok5 (f.ext.trans ⟨rfl, rfl, rfl, rfl, rfl, rfl, rfl, .refl, List.prefix_refl _⟩) (fi.lf q) rfl
end
end L

namespace L
open PySem PySem.Spec PyProof.Rows L2 Z M MR MT X2
open _root_.SX (S S_len S_cat S_inj)
section
variable {P : Program} {w : World} {K : PySem.W.Frag} {mg : Str → Option Value} {base : Heap}
theorem w_while {c : TT} {tb : TS} {D : Ends} {σ : L2.St} {H : Hp} (h : ∃ W : Nat → L2.St → Hp → Prop, (∃ m, W m σ H) ∧ ∀ m σ H, W m σ H → c σ H fun b H1 => if b = true then ∃ N : L2.St → Hp → Prop, (∀ σ' H', N σ' H' → ∃ m', m' < m ∧ W m' σ' H') ∧ tb { D with nx := N, ct := N, bk := D.nx } σ H1 else D.nx σ H1) : tWhile c tb D σ H := h
theorem w_dget2 {td ty tx : TE} {σ : L2.St} {H : Hp} {Q : VK} (h : td σ H fun x H1 => ∃ a, x = .ref a ∧ IsD H1 a ∧ ty σ H1 fun y H2 => tx σ H2 fun z H3 => ∃ o, DGet H3 a y o ∧ Q (o.getD z) H3) : tDGet2 td ty tx σ H Q := h
abbrev WS.cst (x : WS) : List (List Int) := x.D.cs.map (·.2)
abbrev WS.fgf (x : WS) : Nat → Bool := fun n => x.D.fg.getD n false
/-- the list of one literal is assigned -/
def asgWl (wl : List (Int × Addr)) (l : Int) (q : Addr) : List (Int × Addr) := if l ∈ wl.map (·.1) then wl.map fun p => if p.1 = l then (l, q) else p else wl ++ [(l, q)]
def WS.asw (y : WS) (l : Int) (q : Addr) (ns : List Nat) : WS := { y with R := { y.R with wl := asgWl y.R.wl l q }, D := { y.D with wt := fun z => if z = l then ns else y.D.wt z } }
theorem asg_watch {Tt : Tb} {CT CW : Addr} {H0 H : Hp} {y : WS} {q : Addr} {ns : List Nat} {l : Int} {S : List Addr} (ok : WOk K CT CW H y) (e : H q = some (.lst (nV ns))) (nq1 : q ∉ y.wm) (nq2 : q ∉ y.t.dn :: y.tm) (d : DX Tt S (q :: y.mut) H0 H) :
    DX Tt S (y.asw l q ns).mut H0 (upd H y.R.dw (.dK (putK (wkv y.R.wl) (Sum.inl l) (V.ref q)))) ∧ WOk K CT CW (upd H y.R.dw (.dK (putK (wkv y.R.wl) (Sum.inl l) (V.ref q)))) (y.asw l q ns) ∧ ∀ p ∈ (y.asw l q ns).R.wl, p.1 = l ∨ p ∈ y.R.wl := by
  have mb : y.R.dw ∈ y.wm := List.mem_append_left _ (by simp)
  have hs : ∀ c ∈ wmut y.o { y.R with wl := asgWl y.R.wl l q }, c = q ∨ c ∈ y.wm := fun c hc => by
    rcases List.mem_append.mp hc with hc | hc
    · exact .inr (List.mem_append_left _ hc)
    · have hc : c ∈ (asgWl y.R.wl l q).map (·.2) := hc
      unfold asgWl at hc
      split at hc
      · obtain ⟨p, hp, rfl⟩ := List.mem_map.mp hc
        obtain ⟨p0, hp0, rfl⟩ := List.mem_map.mp hp
        by_cases z : p0.1 = l
        · rw [if_pos z]; exact .inl rfl
        · rw [if_neg z]; exact .inr (List.mem_append_right _ (List.mem_map.mpr ⟨p0, hp0, rfl⟩))
      · rw [List.map_append] at hc
        rcases List.mem_append.mp hc with hc | hc
        · exact .inr (List.mem_append_right _ hc)
        · exact .inl (by simpa using hc)
  have wa : WAt K CW (upd H y.R.dw (.dK (putK (wkv y.R.wl) (Sum.inl l) (V.ref q)))) y.o y.tr { y.R with wl := asgWl y.R.wl l q } { y.D with wt := fun z => if z = l then ns else y.D.wt z } := by
    unfold asgWl
    by_cases hl : l ∈ y.R.wl.map (·.1)
    · rw [if_pos hl]
      exact ok.wa.repL hl ns e nq1
    · rw [if_neg hl]
      exact ok.wa.addL hl ns e nq1
  refine ⟨?_, ok.put mb wa (fun c hc => (hs c hc).elim (fun e => .inr (by rw [e]; exact nq2)) .inl), fun p hp => ?_⟩
  · refine (d.put' (List.mem_cons_of_mem _ (List.mem_append_right _ mb)) ok.wa.dw trivial).sub fun c hc => ?_
    rcases List.mem_append.mp hc with hc | hc
    · exact List.mem_cons_of_mem _ (List.mem_append_left _ hc)
    · rcases hs c hc with e | e
      · rw [e]; exact List.mem_cons_self
      · exact List.mem_cons_of_mem _ (List.mem_append_right _ e)
  · have hp : p ∈ asgWl y.R.wl l q := hp
    unfold asgWl at hp
    split at hp
    · obtain ⟨p0, hp0, rfl⟩ := List.mem_map.mp hp
      by_cases z : p0.1 = l
      · rw [if_pos z]; exact .inl rfl
      · rw [if_neg z]; exact .inr hp0
    · rcases List.mem_append.mp hp with hp | hp
      · exact .inr hp
      · exact .inl (by rw [List.mem_singleton.mp hp])
/-- behind a visit -/
structure Vd (K : PySem.W.Frag) (CT CW : Addr) (T : Tb) (H H' : Hp) (x y : WS) (k kk : Nat) : Prop where
  dx : DX T x.mut y.mut H H'
  ok : WOk K CT CW H' y
  ext : Ext x y
  b : WB y k
  fr : y.D.fr = []
  sn : y.D.sn = x.D.sn
  ci : WA.CI (tl y.rs) (dep y.rs) (fun _ => kk) y.cst y.D.wp y.fgf [] y.D.wt
  li : WA.LI y.D.cs.length y.D.wt
def spVisit (K : PySem.W.Frag) (CT CW : Addr) (T : Tb) : Sp := fun vs H Q _ => ∃ (x : WS) (k : Nat) (l : Int), vs = [.ref x.o, .int l] ∧ WOk K CT CW H x ∧ WInv x k ∧ x.D.fr = [] ∧ (l.natAbs : Int) ∈ x.ns ∧ (∃ v, (tl x.rs)[k]? = some (-l, v)) ∧
  (∀ H' y, Vd K CT CW T H H' x y k (k + 1) → Q .non H') ∧
  (∀ H' y n c, Vd K CT CW T H H' x y k k → x.cst[n]? = some c → x.fgf n = false → (∀ z ∈ c, -z ∈ lits y.rs) → Q (.int (n : Int)) H')
/-- within a visit -/
structure ViB (K : PySem.W.Frag) (CT CW : Addr) (T : Tb) (H H' : Hp) (x y : WS) (k : Nat) (l : Int) (N : List Nat) (na sa : Addr) (stay : List Nat) (p : Nat) : Prop where
  dx : DX T x.mut (sa :: y.mut) H H'
  ok : WOk K CT CW H' y
  ext : Ext x y
  b : WB y k
  fr : y.D.fr = []
  sn : y.D.sn = x.D.sn
  wt : y.D.wt l = N
  na : (l, na) ∈ y.R.wl ∨ (N = [] ∧ na ∉ y.mut ∧ H' na = some (.lst (nV [])))
  sa : sa ∉ y.mut ∧ H' sa = some (.lst (nV stay)) ∧ sa ∉ y.t.dn :: y.tm
  sl : stay.length ≤ p
  pl : p ≤ N.length
  li : WA.LI y.D.cs.length (fun z => if z = l then stay ++ N.drop p else y.D.wt z)
theorem ViB.num {CT CW : Addr} {T : Tb} {H H' : Hp} {x y : WS} {k : Nat} {l : Int} {N : List Nat} {na sa : Addr} {stay : List Nat} {p : Nat} (h : ViB K CT CW T H H' x y k l N na sa stay p) : H' na = some (.lst (nV N)) := by
  rcases h.na with q | ⟨e, _, q⟩
  · have := h.ok.wa.wl _ q
    rw [h.wt] at this
    exact this
  · rw [e]
    exact q
theorem look_mem {l : Int} {a : Addr} : ∀ {wl : List (Int × Addr)}, wl.lookup l = some a → (l, a) ∈ wl := by
  intro wl
  induction wl with
  | nil => intro h; cases h
  | cons p wl ih =>
    intro h
    rw [List.lookup_cons] at h
    by_cases e : l = p.1
    · rw [show (l == p.1) = true by simp [e]] at h
      have : p.2 = a := Option.some.inj h
      rw [← this, e]
      exact List.mem_cons_self
    · rw [show (l == p.1) = false by simpa using e] at h
      exact List.mem_cons_of_mem _ (ih h)
theorem DX.cons {T : Tb} {S S' : List Addr} {H H' : Hp} (d : DX T S S' H H') (a : Addr) : DX T (a :: S) (a :: S') H H' := by
  refine ⟨fun b x n nt e => d.kp b x (fun z => n (List.mem_cons_of_mem _ z)) nt e, fun b hb => ?_, d.tb⟩
  rcases List.mem_cons.mp hb with rfl | hb
  · exact .inl List.mem_cons_self
  · exact (d.nw b hb).imp (List.mem_cons_of_mem _) id
/-- a list beside it changes -/
theorem WOk.off {CT CW : Addr} {H : Hp} {y : WS} {a : Addr} {xs : List V} {u : HO} (ok : WOk K CT CW H y) (e : H a = some (.lst xs)) (n1 : a ∉ y.mut) : WOk K CT CW (upd H a u) y := by
  obtain ⟨kn, hk, _⟩ := ok.ta.nd
  refine ⟨ok.ta.at' fun b z hb eb => (upd_ne fun q => ?_).trans eb, ok.wa.at' (fun b z hb eb => (upd_ne fun q => n1 (by rw [← q]; exact List.mem_append_right _ hb)).trans eb) fun c ys q => ?_, ok.sep⟩
  · rcases List.mem_cons.mp hb with hb | hb
    · rw [← q, hb, hk] at e
      cases e
    · exact n1 (by rw [← q]; exact List.mem_append_left _ hb)
  · have no : ∀ {c : Addr} {z : HO}, H c = some z → (∀ xs, z ≠ .lst xs) → upd H a u c = some z := fun {c z} h n => (upd_ne fun q => by
      rw [q, e] at h
      exact n xs (Option.some.inj h).symm).trans h
    rcases q with (q | ⟨ob, q⟩) | q
    · exact .inl (.inl (no q (by simp)))
    · exact .inl (.inr ⟨ob, no q (by simp)⟩)
    · exact .inr q
theorem vi_at' {t : WA.Tr} {d k : Nat} {x : Int} {N stay : List Nat} {p n : Nat} {cs wp : List (List Int)} {fg : Nat → Bool} {wt : Int → List Nat} (V : WA.VI t d k x N stay p cs wp fg wt) (hn : N[p]? = some n) (hf : fg n = false) :
    ∃ c a b o, cs[n]? = some c ∧ wp[n]? = some [a, b] ∧ (if a = x then b else a) = o ∧ 2 ≤ c.length ∧ n ∉ stay ∧ n ∉ N.drop (p + 1) ∧ ((x = a ∧ o = b) ∨ (x = b ∧ o = a)) ∧ WA.WI t k c x o := by
  obtain ⟨c, a, b, h1, h2, h3, h4, h5, h6⟩ := WA.vi_at V hn hf
  rcases h6 with ⟨e, w⟩ | ⟨e, ne, w⟩
  · exact ⟨c, a, b, b, h1, h2, if_pos e.symm, h3, h4, h5, .inl ⟨e, rfl⟩, w⟩
  · exact ⟨c, a, b, a, h1, h2, if_neg (Ne.symm ne), h3, h4, h5, .inr ⟨e, rfl⟩, w⟩
theorem one_pair {t : WA.Tr} {d k : Nat} {c : List Int} {a b x o : Int} (h2 : 2 ≤ c.length) (h : (x = a ∧ o = b) ∨ (x = b ∧ o = a)) (w : WA.WI t k c x o) : WA.One t d k c false [a, b] := by
  rcases h with ⟨rfl, rfl⟩ | ⟨rfl, rfl⟩
  · exact .of w h2
  · exact .of w.swap h2
section
variable {CT CW : Addr} {T : Tb} {H H1 H2 : Hp} {x y : WS} {k : Nat} {l : Int} {N : List Nat} {na sa : Addr} {stay : List Nat} {p n : Nat}
theorem drop_lt (hn : N[p]? = some n) : p + 1 ≤ N.length := (List.getElem?_eq_some_iff.mp hn).1
theorem ViB.forgot (B : ViB K CT CW T H H1 x y k l N na sa stay p) (hn : N[p]? = some n) : ViB K CT CW T H H1 x y k l N na sa stay (p + 1) :=
  ⟨B.dx, B.ok, B.ext, B.b, B.fr, B.sn, B.wt, B.na, B.sa, Nat.le_succ_of_le B.sl, drop_lt hn, WA.li_forgot hn B.li⟩
/-- a deed at y leaves the two lists -/
theorem ViB.keep {y2 : WS} (B : ViB K CT CW T H H1 x y k l N na sa stay p) (d : DX T y.mut y2.mut H1 H2) (hw : ∀ q ∈ y.R.wl, q ∈ y2.R.wl) (ht : y2.t.dn :: y2.tm = y.t.dn :: y.tm) :
    ((l, na) ∈ y2.R.wl ∨ (N = [] ∧ na ∉ y2.mut ∧ H2 na = some (.lst (nV [])))) ∧ (sa ∉ y2.mut ∧ H2 sa = some (.lst (nV stay)) ∧ sa ∉ y2.t.dn :: y2.tm) := by
  have nm : ∀ {a : Addr} {xs : List V}, a ∉ y.mut → H1 a = some (.lst xs) → a ∉ y2.mut := fun {a xs} h e z => by
    rcases d.nw a z with q | q
    · exact h q
    · obtain ⟨ps, hp⟩ := q _ e
      cases hp
  refine ⟨?_, nm B.sa.1 B.sa.2.1, d.kp _ _ B.sa.1 (fun ps z => by cases z) B.sa.2.1, by rw [ht]; exact B.sa.2.2⟩
  rcases B.na with h | ⟨h1, h2, h3⟩
  · exact .inl (hw _ h)
  · exact .inr ⟨h1, nm h2 h3, d.kp _ _ h2 (fun ps z => by cases z) h3⟩
theorem ViB.mov {wl : List (Int × Addr)} {o z : Int} (B : ViB K CT CW T H H1 x y k l N na sa stay p) (hn : N[p]? = some n) (d : DX T y.mut (y.mov wl n o z).mut H1 H2) (ok : WOk K CT CW H2 (y.mov wl n o z)) (b : WB (y.mov wl n o z) k) (hw : ∀ q ∈ y.R.wl, q ∈ wl)
    (zl : z ≠ l) (nz : n ∉ y.D.wt z) (nc : n < y.D.cs.length) : ViB K CT CW T H H2 x (y.mov wl n o z) k l N na sa stay (p + 1) := by
  obtain ⟨h1, h2⟩ := B.keep d hw rfl
  refine ⟨B.dx.trans (d.cons sa), ok, B.ext.trans ⟨rfl, rfl, rfl, rfl, rfl, rfl, rfl, .refl, List.prefix_refl _⟩, b, B.fr, B.sn, ?_, h1, h2, Nat.le_succ_of_le B.sl, drop_lt hn, WA.li_move hn B.li zl nz nc⟩
  show addWt y.D.wt z n l = N
  unfold addWt
  rw [if_neg (Ne.symm zl)]
  exact B.wt
theorem ViB.app (B : ViB K CT CW T H H1 x y k l N na sa stay p) (hn : N[p]? = some n) : ViB K CT CW T H (upd H1 sa (.lst (nV (stay ++ [n])))) x y k l N na sa (stay ++ [n]) (p + 1) := by
  refine ⟨B.dx.put' List.mem_cons_self B.sa.2.1 trivial, B.ok.off B.sa.2.1 B.sa.1, B.ext, B.b, B.fr, B.sn, B.wt, ?_, ⟨B.sa.1, upd_same, B.sa.2.2⟩, ?_, drop_lt hn, WA.li_stay hn B.li⟩
  · rcases B.na with h | ⟨h1, h2, h3⟩
    · exact .inl h
    · subst h1
      cases hn
  · rw [List.length_append, List.length_singleton]
    have := B.sl
    omega
theorem ViB.frc {o : Int} {m : Nat} (B : ViB K CT CW T H H1 x y k l N na sa stay p) (d : DX T y.mut (y.frc o m).mut H1 H2) (ok : WOk K CT CW H2 (y.frc o m)) (g : GRow (y.D.cs.map (·.2)) y.D.fg y.rs (o, some (m : Int))) (ho : (o.natAbs : Int) ∈ y.ns) (h1 : o ∉ lits y.rs) (h2 : -o ∉ lits y.rs) : ViB K CT CW T H H2 x (y.frc o m) k l N na sa stay p := by
  obtain ⟨q1, q2⟩ := B.keep d (fun q hq => hq) rfl
  exact ⟨B.dx.trans (d.cons sa), ok, B.ext.trans (frc_ext g), B.b.frc ho h1 h2, B.fr, B.sn, B.wt, q1, q2, B.sl, B.pl, B.li⟩
end
theorem w_cat {a b : Addr} {xs zs : List V} {H : Hp} {Q : VK} (h1 : H a = some (.lst xs)) (h2 : H b = some (.lst zs)) (hz : xs.length + zs.length ≤ 1000) (q : ∀ p, H p = none → Q (.ref p) (upd H p (.lst (xs ++ zs)))) : rCat (.ref a) (.ref b) H Q := ⟨a, b, xs, zs, rfl, rfl, h1, h2, Z.sz4 hz, q⟩
theorem wkv_len (wl : List (Int × Addr)) : (wkv wl).length = wl.length := List.length_map _
/-- self._watchers[l] = staying + numbers[place:]; return clash -/
theorem w_end {T : Txt K mg} {Tt : Tb} {D : Ends} {H H' : Hp} {x y : WS} {k : Nat} {l : Int} {N : List Nat} {na sa : Addr} {stay : List Nat} {p : Nat} {cl : V} {x6 : Option V} (B : ViB K T.C_Trail T.C_Watching Tt H H' x y k l N na sa stay p) (hln : (l.natAbs : Int) ∈ x.ns)
    (q : ∀ H2 y2, y2.rs = y.rs → DX Tt x.mut y2.mut H H2 → WOk K T.C_Trail T.C_Watching H2 y2 → Ext x y2 → WB y2 k → y2.D.fr = [] → y2.D.sn = x.D.sn → y2.cst = y.cst → y2.D.wp = y.D.wp → y2.fgf = y.fgf → y2.D.cs.length = y.D.cs.length → y2.D.wt = (fun z => if z = l then stay ++ N.drop p else y.D.wt z) → D.rt cl H2) :
    tSeq (sDPut (tFld K (tVar 0) "_watchers") (tVar 1) (tOp rCat (tVar 3) (tSl (rSlL K) (tVar 2) (tPart (tVar 5)) tNoPart))) (tRet (tVar 4)) D [some (.ref x.o), some (.int l), some (.ref na), some (.ref sa), some cl, some (.int (p : Int)), x6] H' := by
  have hnum := B.num
  have ll := B.li.len l
  try dsimp only at ll
  rw [if_pos rfl] at ll
  have := B.b.cln
  have eo : y.o = x.o := B.ext.o
  rw [← eo]
  walk_at "w"
  refine w_slFrom (.inl (.inl hnum)) (by rw [nV_len]; exact B.pl) fun q1 hq1 => ?_
  have dropV : (nV N).drop p = nV (N.drop p) := List.map_drop.symm
  have h1 : upd H' q1 (.lst ((nV N).drop p)) sa = some (.lst (nV stay)) := upd_of hq1 B.sa.2.1
  refine w_cat h1 upd_same ?_ fun q2 hq2 => ?_
  · rw [dropV, nV_len, nV_len]
    rw [List.length_append] at ll
    omega
  have s1 := same_of (Same.refl _) hq1 (o := .lst ((nV N).drop p))
  have s2 := same_of s1 hq2 (o := .lst (nV stay ++ (nV N).drop p))
  have ok1 := B.ok.same s1
  have ok2 := B.ok.same s2
  obtain ⟨nq1, nq2⟩ := ok1.fresh hq2
  have ec : nV stay ++ (nV N).drop p = nV (stay ++ N.drop p) := by rw [dropV]; exact List.map_append.symm
  walk_at "w"
  refine w_fldT T.cl_Watching T.n_Watching__watchers ok2.wa.obj rfl ?_
  walk_at "w"
  have wk : y.R.wl.length ≤ 100 := keys_len' B.b ok2.wa.wk B.b.key
  refine ⟨y.R.dw, _, rfl, DPut.k (k := Sum.inl l) ok2.wa.dw (by rw [wkv_len]; exact Nat.lt_of_le_of_lt (Nat.le_trans wk (show 100 ≤ 1000 by decide)) (by decide)), ?_⟩
  have dd : DX Tt x.mut (q2 :: sa :: y.mut) H (upd (upd H' q1 (.lst ((nV N).drop p))) q2 (.lst (nV stay ++ (nV N).drop p))) := (B.dx.new0 hq1).new hq2
  obtain ⟨d, ok3, key⟩ := asg_watch (l := l) (q := q2) (ns := stay ++ N.drop p) ok2 (by rw [upd_same, ec]) nq1 nq2 (dd.sub fun b hb => (List.mem_cons.mp hb).elim (fun e => by rw [e]; exact List.mem_cons_self) fun hb => List.mem_cons_of_mem _ (List.mem_cons_of_mem _ hb))
  walk_at "w"
  refine q _ (y.asw l q2 (stay ++ N.drop p)) rfl d ok3 (B.ext.trans ⟨rfl, rfl, rfl, rfl, rfl, rfl, rfl, .refl, List.prefix_refl _⟩) ?_ B.fr B.sn rfl rfl rfl rfl rfl
  have b := B.b
  refine ⟨b.vis, b.sle, b.ti, b.lit, b.cl, b.nsb, b.nsl, b.frl, b.fln, b.cln, b.frn, b.son, fun z hz => ?_⟩
  rcases key z hz with e | e
  · rw [e]
    have := B.ext.ns
    show (l.natAbs : Int) ∈ y.ns
    rw [this]
    exact hln
  · exact b.key z e
theorem ok_visit (T : Txt K mg) {Tt : Tb} : FnOk P w K mg base CX0 9 T.f_Watching_visit T.fd_Watching_visit ["self", "literal"] (spVisit K T.C_Trail T.C_Watching Tt) := by
  have G_Watching_moves := ok_moves (P := P) (w := w) (base := base) T (Tt := Tt)
  have G_Watching_clash_or_force := ok_clash (P := P) (w := w) (base := base) T (Tt := Tt)
  refine T.F_Watching_visit.ok sc_Watching_visit (fun vs H Q E h => ?_) (fun cdv A outer s H vs Q E hr h => ?_)
  · obtain ⟨x, k, l, rfl, _⟩ := h
    rfl
  · obtain ⟨x, k, l, rfl, ok, inv, hfr, hln, hrow, h1, h2⟩ := h
    refine ⟨_, (pss_cons (ps_set (i := 2) sc_Watching_visit.nd rfl (.inl rfl) (pe_dget2 (hu_of hr) (pe_fld (pv 0) rfl) (pv 1) (pe_lst pa_nil) ⟨rfl, rfl, rfl, rfl⟩))
 (pss_cons (ps_set (i := 3) sc_Watching_visit.nd rfl (.inl rfl) (pe_lst pa_nil))
 (pss_cons (ps_set (i := 4) sc_Watching_visit.nd rfl (.inl rfl) pe_non)
 (pss_cons (ps_set (i := 5) sc_Watching_visit.nd rfl (.inl rfl) pe_int)
 (pss_cons (ps_while PassesOwn.never (PW.pt (pw_and (pt_cmpR op_lt (pv 5) (pe_callB call_len_seq (by rfl) T.m_len (by decide +kernel) (pa_cons (pv 2) pa_nil)) (nomark _)) (pw_and1 (pt_cmpR op_isN (pv 4) pe_non (nomark _))))) (pss_cons (ps_set (i := 6) sc_Watching_visit.nd rfl (.inl rfl) (pe_ix ix_list (pv 2) (pv 5) (fun _ _ => rfl)))
 (pss_cons (ps_aug (i := 5) sc_Watching_visit.nd rfl (.inl rfl) pe_int ip_add)
 (pss_one (ps_if (PW.pt (pw_and (pt_cmp (pc_dnotin (hu_of hr) (pv 6) (pe_fld (pv 0) rfl))) (pw_and1 (pt_not (pt_val (pe_meth (pv 0) T.cl_Watching T.M_Watching_moves G_Watching_moves (hr.mono (by first | decide | omega)) T.b_Watching_moves .nil pass0 (pa_cons (pv 6) (pa_cons (pv 1) pa_nil)))))))) (pss_cons (ps_expr (pe_bm PySem.F.plainAttrs_list PySem.F.slot_list_append PySem.F.type_list_append mt_append (pv 3) (pa_cons (pv 6) pa_nil)))
 (pss_one (ps_set (i := 4) sc_Watching_visit.nd rfl (.inl rfl) (pe_meth (pv 0) T.cl_Watching T.M_Watching_clash_or_force G_Watching_clash_or_force (hr.mono (by first | decide | omega)) T.b_Watching_clash_or_force .nil pass0 (pa_cons (pv 6) (pa_cons (pv 1) pa_nil)))))) pss_nil)))))
 (pss_cons (ps_dput (hu_of hr) (pe_fld (pv 0) rfl) (pv 1) (pe_op op_cat (pv 3) (pe_slice sl_list (pv 2) (po_some (pv 5)) po_none)) rfl)
 (pss_one (ps_ret (pv 4))))))))), ?_⟩
    refine Z.w_start (σ' := [some (.ref x.o), some (.int l), none, none, none, none, none]) rfl ?_
    walk_at "w"
    refine w_dget2 ?_
    refine w_fldT T.cl_Watching T.n_Watching__watchers ok.wa.obj rfl ?_
    refine ⟨x.R.dw, rfl, .inl ⟨_, .inl ok.wa.dw⟩, ?_⟩
    walk_at "w"
    rename_i q hq
    obtain ⟨na, hna, hnn⟩ : ∃ na, (valV (wkv x.R.wl) (Sum.inl l)).getD (V.ref q) = .ref na ∧ ((l, na) ∈ x.R.wl ∨ (x.D.wt l = [] ∧ na = q)) := by
      rw [wkv_val]
      cases e : x.R.wl.lookup l with
      | some a => exact ⟨a, rfl, .inl (look_mem e)⟩
      | none =>
        refine ⟨q, rfl, .inr ⟨ok.wa.wn l fun hm => ?_, rfl⟩⟩
        obtain ⟨p, hp, e2⟩ := List.mem_map.mp hm
        have := wl_look ok.wa.wk hp
        rw [e2, e] at this
        cases this
    have ok1 : WOk K T.C_Trail T.C_Watching (upd H q (.lst [])) x := ok.same (same_of (Same.refl _) hq)
    refine ⟨_, DGet.k (k := Sum.inl l) ok1.wa.dw, ?_⟩
    rw [hna]
    walk_at "w"
    rename_i sa hsa
    have ok2 := ok1.same (same_of (Same.refl _) hsa (o := .lst []))
    obtain ⟨fs1, fs2⟩ := ok1.fresh hsa
    have hlN := inv.li.len l
    have e0 : nV [] = ([] : List V) := rfl
    have hB : ViB K T.C_Trail T.C_Watching Tt H (upd (upd H q (.lst [])) sa (.lst [])) x x k l (x.D.wt l) na sa [] 0 := by
      obtain ⟨fq1, fq2⟩ := ok.fresh hq
      refine ⟨((DX.refl x.mut H).new0 hq).new hsa, ok2, .refl x, inv.b, hfr, rfl, rfl, ?_, ⟨fun z => ?_, upd_same, fs2⟩, Nat.le_refl _, Nat.zero_le _, WA.li_start inv.li⟩
      · rcases hnn with h | ⟨h, rfl⟩
        · exact .inl h
        · refine .inr ⟨h, fun z => ?_, (upd_of hsa upd_same)⟩
          rcases List.mem_append.mp z with z | z
          · exact fq2 (List.mem_cons_of_mem _ z)
          · exact fq1 z
      · rcases List.mem_append.mp z with z | z
        · exact fs2 (List.mem_cons_of_mem _ z)
        · exact fs1 z
    have ci := inv.ci
    rw [hfr] at ci
    have hV := WA.vi_start inv.ti hrow ci
    generalize eN : x.D.wt l = N at hB hV hlN
    walk_at "w"
    refine w_while ⟨fun m σ H' => ∃ (y : WS) (stay : List Nat) (p : Nat) (x6 : Option V) (cl : V), σ = [some (.ref x.o), some (.int l), some (.ref na), some (.ref sa), some cl, some (.int (p : Int)), x6] ∧ ViB K T.C_Trail T.C_Watching Tt H H' x y k l N na sa stay p ∧ N.length - p = m ∧
      ((cl = .non ∧ WA.VI (tl y.rs) (dep y.rs) k l N stay p y.cst y.D.wp y.fgf y.D.wt) ∨ ∃ (n : Nat) (c : List Int), cl = .int (n : Int) ∧ WA.CI (tl y.rs) (dep y.rs) (fun _ => k) y.cst y.D.wp y.fgf [] (fun z => if z = l then stay ++ N.drop p else y.D.wt z) ∧ x.cst[n]? = some c ∧ x.fgf n = false ∧ ∀ z ∈ c, -z ∈ lits y.rs), ?_, ?_⟩
    · exact ⟨_, x, [], 0, _, _, rfl, hB, rfl, .inl ⟨rfl, hV⟩⟩
    · rintro m σ H' ⟨y, stay, p, x6, cl, rfl, B, rfl, hc⟩
      have hnum := B.num
      rcases hc with ⟨rfl, V⟩ | ⟨n, c, rfl, C, h3, h4, h5⟩
      · by_cases hp : p < N.length
        · have hn : N[p]? = some N[p] := List.getElem?_eq_getElem hp
          generalize N[p] = n at hn
          have hat : atI (nV N) (p : Int) = some (L2.V.int (n : Int)) := atI_nat (by unfold nV; rw [List.getElem?_map, hn]; rfl)
          walk_at "w"
          rw [nV_len, decide_eq_true (show (p : Int) < N.length by omega), if_pos rfl]
          walk_at "w"
          refine ⟨fun σ H' => ∃ (y : WS) (stay : List Nat) (x6 : Option L2.V) (cl : L2.V), σ = [some (.ref x.o), some (.int l), some (.ref na), some (.ref sa), some cl, some (.int ((p : Int) + 1)), x6] ∧ ViB K T.C_Trail T.C_Watching Tt H H' x y k l N na sa stay (p + 1) ∧
            ((cl = .non ∧ WA.VI (tl y.rs) (dep y.rs) k l N stay (p + 1) y.cst y.D.wp y.fgf y.D.wt) ∨ ∃ (n : Nat) (c : List Int), cl = .int (n : Int) ∧ WA.CI (tl y.rs) (dep y.rs) (fun _ => k) y.cst y.D.wp y.fgf [] (fun z => if z = l then stay ++ N.drop (p + 1) else y.D.wt z) ∧ x.cst[n]? = some c ∧ x.fgf n = false ∧ ∀ z ∈ c, -z ∈ lits y.rs), fun σ' H'' ⟨y, stay, x6, cl, e, B, h⟩ => ⟨N.length - (p + 1), by omega, y, stay, p + 1, x6, cl, e, B, rfl, h⟩, ?_⟩
          have eo : y.o = x.o := B.ext.o
          rw [← eo]
          obtain ⟨kf, hkf, _, hgv⟩ := B.ok.wa.df
          walk_at "w"
          refine ⟨L2.V.int (p : Int), rfl, Z.w_c ⟨(p : Int), 1, rfl, rfl, ?_⟩⟩
          simp only [List.set_cons_zero, List.set_cons_succ]
          walk_at "w"
          refine w_fldT T.cl_Watching T.n_Watching__forgotten B.ok.wa.obj rfl ?_
          refine ⟨y.R.df, _, rfl, DGet.k (k := Sum.inl (n : Int)) hkf, ?_⟩
          rw [hgv]
          cases hg : y.D.fg.getD n false with
          | true =>
            walk_at "w"
            rw [eo]
            exact ⟨y, stay, _, _, rfl, B.forgot hn, .inl ⟨rfl, WA.vi_forgot V hn hg⟩⟩
          | false =>
            obtain ⟨c, a, b, o, hc, hw, ho, h2c, ns, nd, hab, wi⟩ := vi_at' V hn hg
            have nc : n < y.D.cs.length := by
              have := (List.getElem?_eq_some_iff.mp hc).1
              rwa [List.length_map] at this
            walk_at "w"
            refine w_meth0 B.ok.wa.obj rfl (by rfl) ?_
            walk_at "w"
            have liy : WA.LI y.D.cs.length y.D.wt := fun z => by
              by_cases e : z = l
              · rw [e, B.wt, ← eN, B.ext.cs]
                exact inv.li l
              · have := B.li z
                try dsimp only at this
                rw [if_neg e] at this
                exact this
            have lnz : l ≠ 0 := (inv.nz hln).1
            have ons : (o.natAbs : Int) ∈ y.ns := (B.b.cl _ (cs_mem hc).2).2 o wi.mb
            refine ⟨y, k, n, l, a, b, o, c, rfl, B.ok, B.b, liy, hw, ho, hc, fun hh => ?_, fun onin z zc zl zo nz H2 wl d ok2 wb keep => ?_⟩
            · walk_at "w"
              refine Z.w_bm (Z.w_var (v := L2.V.ref sa) rfl ⟨.inl ⟨rfl, _, .inl (.inl B.sa.2.1)⟩, ?_⟩)
              walk_at "w"
              have sl := B.sl
              refine ⟨sa, _, _, rfl, rfl, B.sa.2.1, ?_, ?_⟩
              · rw [nV_len]
                exact Nat.lt_of_le_of_lt (show stay.length ≤ 1000 by have := inv.cln; omega) (by decide)
              rw [nV_snoc]
              have B2 := B.app hn
              generalize upd H' sa (.lst (nV (stay ++ [n]))) = H2 at B2 ⊢
              walk_at "w"
              refine w_meth0 B2.ok.wa.obj rfl (by rfl) ?_
              walk_at "w"
              have nz : o ≠ 0 := (B.b.nz ons).1
              obtain ⟨v, hv⟩ := V.row
              have lfalse : -l ∈ lits y.rs := List.mem_of_getElem? (tl_at.mp hv).1
              refine ⟨y, k, n, l, a, b, rfl, B2.ok, B2.b, hw, by rw [ho]; exact ons, ?_⟩
              rw [ho]
              refine ⟨fun h => ?_, fun h h' => ?_, fun h h' H3 d3 ok3 => ?_⟩
              · walk_at "w"
                rw [eo]
                refine ⟨y, _, _, _, rfl, B2, .inr ⟨n, c, rfl, ?_, by rw [← hc]; exact congrArg (fun cs => (cs.map (·.2))[n]?) B.ext.cs.symm, by rw [← hg]; exact congrArg (fun fg => fg.getD n false) B.ext.fg.symm, fun z zc => ?_⟩⟩
                · have := WA.vi_clash V
                  rw [WA.vi_drop hn] at this
                  rw [List.append_assoc]
                  exact this
                · by_cases zl : z = l
                  · rw [zl]; exact lfalse
                  · by_cases zo : z = o
                    · rw [zo]; exact h
                    · rcases hh with hh | hh
                      · exact (V.ti.con nz (by rw [tl_lits]; exact hh) (by rw [tl_lits]; exact h)).elim
                      · exact hh z zc zl zo
              · walk_at "w"
                rw [eo]
                refine ⟨y, _, _, _, rfl, B2, .inl ⟨rfl, ?_⟩⟩
                have q := WA.vi_stay V hn [] (by rw [List.append_nil]; exact V.ti) fun c' w' e1 e2 _ => by
                  obtain rfl := Option.some.inj (hc.symm.trans e1)
                  obtain rfl := Option.some.inj (hw.symm.trans e2)
                  rw [List.append_nil]
                  exact one_pair h2c hab (WA.WI.stay (d := dep y.rs) V.ti wi hv (by rw [tl_lits]; exact h'))
                rw [List.append_nil] at q
                exact q
              · walk_at "w"
                rw [eo]
                have gr : GRow (y.D.cs.map (·.2)) y.D.fg y.rs (o, some (n : Int)) := ⟨n, c, rfl, hc, hg, wi.mb, h', h, fun z zc zo => by
                  by_cases zl : z = l
                  · rw [zl]; exact lfalse
                  · rcases hh with hh | hh
                    · exact absurd hh h'
                    · exact hh z zc zl zo⟩
                refine ⟨y.frc o n, _, _, _, rfl, B2.frc d3 ok3 gr ons h' h, .inl ⟨rfl, ?_⟩⟩
                have q := WA.vi_stay V hn [(o, dep y.rs)] (V.ti.grow (by rw [tl_lits]; exact h') (by rw [tl_lits]; exact h)) fun c' w' e1 e2 _ => by
                  obtain rfl := Option.some.inj (hc.symm.trans e1)
                  obtain rfl := Option.some.inj (hw.symm.trans e2)
                  exact one_pair h2c hab (WA.WI.force V.ti wi hv (by rw [tl_lits]; exact h))
                rw [frc_tl, frc_dep]
                exact q
            · walk_at "w"
              rw [eo]
              refine ⟨y.mov wl n o z, stay, _, _, rfl, B.mov hn d ok2 wb keep zl ?_ nc, .inl ⟨rfl, ?_⟩⟩
              · have q := (V.ci.cnt z n hg).2 fun ⟨c', w', e1, e2, _, e3⟩ => by
                  obtain rfl := Option.some.inj (hw.symm.trans e2)
                  rcases hab with ⟨h1, h2⟩ | ⟨h1, h2⟩
                  · rw [← h1, ← h2] at e3
                    simp [zl, zo] at e3
                  · rw [← h1, ← h2] at e3
                    simp [zl, zo] at e3
                try dsimp only at q
                rw [if_neg zl] at q
                exact List.count_eq_zero.mp q
              · exact WA.vi_move V hn hg hc hw h2c ns nd hab zl zo wi.ne (WA.WI.move V.ti wi V.row.choose_spec lnz zc zl zo (by rw [tl_lits]; exact nz))
        · walk_at "w"
          rw [nV_len, decide_eq_false (show ¬ (p : Int) < N.length by omega), if_neg (by decide), if_neg (by decide)]
          refine w_end B hln fun H2 y2 rs d ok2 ex b fr sn e1 e2 e3 e4 e5 => h1 H2 y2 ⟨d, ok2, ex, b, fr, sn, ?_, ?_⟩
          · rw [rs, e1, e2, e3, e5]
            exact WA.vi_end V (by omega)
          · rw [e4, e5]
            exact B.li
      · walk_at "w"
        have fin : ∀ H2 y2, y2.rs = y.rs → DX Tt x.mut y2.mut H H2 → WOk K T.C_Trail T.C_Watching H2 y2 → Ext x y2 → WB y2 k → y2.D.fr = [] → y2.D.sn = x.D.sn → y2.cst = y.cst → y2.D.wp = y.D.wp → y2.fgf = y.fgf → y2.D.cs.length = y.D.cs.length → y2.D.wt = (fun z => if z = l then stay ++ N.drop p else y.D.wt z) → Q (.int (n : Int)) H2 := fun H2 y2 rs d ok2 ex b fr sn e1 e2 e3 e4 e5 => by
          refine h2 H2 y2 n c ⟨d, ok2, ex, b, fr, sn, ?_, ?_⟩ h3 h4 (by rw [rs]; exact h5)
          · rw [rs, e1, e2, e3, e5]
            exact C
          · rw [e4, e5]
            exact B.li
        by_cases hp : p < N.length
        · rw [nV_len, decide_eq_true (show (p : Int) < N.length by omega), if_pos rfl]
          refine Z.w_test (Z.w_op (Z.w_var (v := V.int (n : Int)) rfl (Z.w_c ⟨rfl, ⟨false, rfl, ?_⟩⟩)))
          rw [if_neg (by decide)]
          exact w_end B hln fin
        · rw [nV_len, decide_eq_false (show ¬ (p : Int) < N.length by omega), if_neg (by decide), if_neg (by decide)]
          exact w_end B hln fin
end
end L

namespace L
open PySem PySem.Spec PyProof.Rows L2 Z M MR MT X2
open _root_.SX (S S_len S_cat S_inj)
section
variable {P : Program} {w : World} {K : PySem.W.Frag} {mg : Str → Option Value} {base : Heap}
theorem asc_count {n : Nat} : ∀ {tk : List Nat}, tk.Pairwise (· < ·) → ∀ {i a : Nat}, tk[i]? = some a → (a < n ↔ i < tk.countP fun a => decide (a < n))
  | [], _, i, a, h => by simp at h
  | b :: tk, hp, i, a, h => by
    rw [List.pairwise_cons] at hp
    rw [List.countP_cons]
    by_cases hb : b < n
    · rw [if_pos (by simpa using hb)]
      cases i with
      | zero =>
        rw [List.getElem?_cons_zero] at h
        obtain rfl := Option.some.inj h
        exact ⟨fun _ => Nat.succ_pos _, fun _ => hb⟩
      | succ i =>
        rw [List.getElem?_cons_succ] at h
        have := asc_count hp.2 h (n := n)
        omega
    · rw [if_neg (by simpa using hb)]
      have z : tk.countP (fun a => decide (a < n)) = 0 := by
        rw [List.countP_eq_zero]
        intro x hx
        have := hp.1 x hx
        simp
        omega
      rw [z]
      have : n ≤ a := by
        cases i with
        | zero =>
          rw [List.getElem?_cons_zero] at h
          obtain rfl := Option.some.inj h
          omega
        | succ i =>
          rw [List.getElem?_cons_succ] at h
          have := hp.1 a (List.mem_of_getElem? h)
          omega
      omega
def cnt (tk : List Nat) (n : Nat) : Nat := tk.countP fun a => decide (a < n)
theorem cnt_le (tk : List Nat) (n : Nat) : cnt tk n ≤ tk.length := List.countP_le_length
def spSince (CT : Addr) : Sp := fun vs H Q _ => ∃ (o : Addr) (t : TrO) (ns : List Int) (rs : List TRow) (n : Nat), vs = [.ref o, .int (n : Int)] ∧ TrAt CT H o t ns rs ∧ rs.length ≤ 50 ∧
  ∀ (q : Addr) (ts : List Addr) (H' : Hp), Same H H' → H q = none → (∀ a ∈ ts, H a = none) → H' q = some (.lst (ts.map V.ref)) → ts.length = rs.length - cnt t.tk n →
    (∀ (j : Nat) (a : Addr) (k : Nat) (l : Int), ts[j]? = some a → t.tk[cnt t.tk n + j]? = some k → (lits rs)[cnt t.tk n + j]? = some l → H' a = some (.tup [.int (k : Int), .int l])) → Q (.ref q) H'
theorem w_zip {T : Txt K mg} {D : Ends} {H : Hp} {o : Addr} {t : TrO} {ns : List Int} {rs : List TRow} {n : Nat} {x1 : V} (ta : TrAt T.C_Trail H o t ns rs) (hl : rs.length ≤ 50)
    (h : ∀ (q : Addr) (ts : List Addr) (H' : Hp), Same H H' → H q = none → (∀ a ∈ ts, H a = none) → H' q = some (.lst (ts.map V.ref)) → ts.length = rs.length - n →
    (∀ (j : Nat) (a : Addr) (k : Nat) (l : Int), ts[j]? = some a → t.tk[n + j]? = some k → (lits rs)[n + j]? = some l → H' a = some (.tup [.int (k : Int), .int l])) → D.rt (.ref q) H') (hn : n ≤ rs.length) :
    tRet (ZL.tListZip K (tCons (tSl (rSlL K) (tFld K (tVar 0) "_tickets") (tPart (tVar 2)) tNoPart) (tCons (tSl (rSlL K) (tFld K (tVar 0) "_literals") (tPart (tVar 2)) tNoPart) tNil))) D [some (.ref o), some x1, some (.int (n : Int))] H := by
  have htk := ta.tic.1
  have hli := ta.li
  have lk := ta.tic.2.1
  walk_at "w"
  refine (?_ : tCons _ _ _ _ _)
  walk_at "w"
  refine w_fldT T.cl_Trail T.n_Trail__tickets ta.obj rfl ?_
  walk_at "w"
  refine w_slFrom (.inl (.inl htk)) (by rw [nV_len]; omega) fun q1 hq1 => ?_
  have s1 := same_of (Same.refl _) hq1 (o := .lst ((nV t.tk).drop n))
  walk_at "w"
  refine w_fldT T.cl_Trail T.n_Trail__literals (s1 _ _ ta.obj) rfl ?_
  walk_at "w"
  refine w_slFrom (.inl (.inl (s1 _ _ hli))) (by rw [List.length_map, lits_len]; omega) fun q2 hq2 => ?_
  have s2 := same_of s1 hq2 (o := .lst (((lits rs).map V.int).drop n))
  walk_at "w"
  have z1 : upd H q1 (.lst ((nV t.tk).drop n)) q1 = some (.lst ((nV t.tk).drop n)) := upd_same
  refine ⟨q1, q2, _, _, rfl, .inl (.inl (upd_of hq2 z1)), .inl (.inl upd_same), ?_, fun q ts H2 nq nt nqt nd lt eq et old => ?_⟩
  · rw [List.length_drop, List.length_drop, nV_len, List.length_map, lits_len, lk]
  have hq : H q = none := by
    cases e : H q with
    | none => rfl
    | some u =>
      rw [s2 _ _ e] at nq
      cases nq
  have ht : ∀ a ∈ ts, H a = none := fun a ha => by
    cases e : H a with
    | none => rfl
    | some u =>
      have := nt a ha
      rw [s2 _ _ e] at this
      cases this
  refine h q ts H2 (fun b u e => ?_) hq ht eq (by rw [lt, List.length_drop, nV_len, lk]) fun j a k l e1 e2 e3 => et j a _ _ e1 ?_ ?_
  · rw [old b (fun z => by rw [z, hq] at e; cases e) (fun z => by rw [ht b z] at e; cases e)]
    exact s2 _ _ e
  · rw [List.getElem?_drop]
    unfold nV
    rw [List.getElem?_map, e2]
    rfl
  · rw [List.getElem?_drop, List.getElem?_map, e3]
    rfl
theorem ok_since (T : Txt K mg) : FnOk P w K mg base CX0 1 T.f_Trail_put_since T.fd_Trail_put_since ["self", "ticket"] (spSince T.C_Trail) := by
  refine T.F_Trail_put_since.ok sc_Trail_put_since (fun vs H Q E h => ?_) (fun cdv A outer s H vs Q E hr h => ?_)
  · obtain ⟨o, t, ns, rs, n, rfl, _⟩ := h
    rfl
  · obtain ⟨o, t, ns, rs, n, rfl, ta, hl, h⟩ := h
    refine ⟨_, (pss_cons (ps_set (i := 2) sc_Trail_put_since.nd rfl (.inl rfl) (pe_callB call_len_seq (by rfl) T.m_len (by decide +kernel) (pa_cons (pe_fld (pv 0) rfl) pa_nil)))
 (pss_cons (ps_while PassesOwn.never (PW.pt (pw_and (pt_cmpR op_gt (pv 2) pe_int (nomark _)) (pw_and1 (pt_cmpR op_ge (pe_ix ix_list (pe_fld (pv 0) rfl) (pe_op op_sub (pv 2) pe_int) (fun _ _ => rfl)) (pv 1) (nomark _))))) (pss_one (ps_aug (i := 2) sc_Trail_put_since.nd rfl (.inl rfl) pe_int ip_sub)))
 (pss_one (ps_ret (ZL.pe_listZip rfl (by rfl) T.m_list (by rfl) T.m_zip (pa_cons (pe_slice sl_list (pe_fld (pv 0) rfl) (po_some (pv 2)) po_none) (pa_cons (pe_slice sl_list (pe_fld (pv 0) rfl) (po_some (pv 2)) po_none) pa_nil))))))), ?_⟩
    refine Z.w_start (σ' := [some (.ref o), some (.int (n:Int)), none]) rfl ?_
    have htk := ta.tic.1
    have hli := ta.li
    have asc := fun {i a : Nat} => asc_count ta.tic.2.2.1 (i := i) (a := a) (n := n)
    have lk := ta.tic.2.1
    walk_at "w"
    refine w_fldT T.cl_Trail T.n_Trail__tickets ta.obj rfl ?_
    walk_at "w"
    rw [nV_len]
    refine w_while ⟨fun m σ H' => H' = H ∧ m ≤ t.tk.length ∧ cnt t.tk n ≤ m ∧ σ = [some (.ref o), some (.int (n : Int)), some (.int (m : Int))], ⟨_, rfl, Nat.le_refl _, cnt_le _ _, rfl⟩, ?_⟩
    rintro m σ H' ⟨rfl, hm, hc, rfl⟩
    walk_at "w"
    by_cases h0 : 0 < m
    · rw [decide_eq_true (show (0 : Int) < m by omega), if_pos rfl]
      obtain ⟨m, rfl⟩ : ∃ m', m = m' + 1 := ⟨m - 1, by omega⟩
      have hk : t.tk[m]? = some t.tk[m] := List.getElem?_eq_getElem (by omega)
      generalize t.tk[m] = k at hk
      have hat : atI (nV t.tk) (((m + 1 : Nat) : Int) - 1) = some (V.int (k : Int)) := by
        rw [show ((m + 1 : Nat) : Int) - 1 = (m : Int) by omega]
        exact atI_nat (by unfold nV; rw [List.getElem?_map, hk]; rfl)
      walk_at "w"
      refine w_fldT T.cl_Trail T.n_Trail__tickets ta.obj rfl ?_
      walk_at "w"
      by_cases hn : n ≤ k
      · rw [decide_eq_true (show (n : Int) ≤ k by omega), if_pos rfl]
        refine ⟨fun σ G => σ = [some (.ref o), some (.int (n : Int)), some (.int (m : Int))] ∧ G = H', fun σ' H'' ⟨e1, e2⟩ => ⟨m, by omega, e2, by omega, ?_, e1⟩, ?_⟩
        · have := asc hk
          have : cnt t.tk n = t.tk.countP fun a => decide (a < n) := rfl
          omega
        · refine ⟨V.int ((m + 1 : Nat) : Int), rfl, Z.w_c ⟨((m + 1 : Nat) : Int), 1, rfl, rfl, ?_⟩⟩
          simp only [List.set_cons_zero, List.set_cons_succ]
          exact ⟨by rw [show ((m + 1 : Nat) : Int) - 1 = (m : Int) by omega], trivial⟩
      · rw [decide_eq_false (show ¬ (n : Int) ≤ k by omega), if_neg (by decide)]
        have e : m + 1 = cnt t.tk n := by
          have := (asc hk).mp (by omega)
          have : cnt t.tk n = t.tk.countP fun a => decide (a < n) := rfl
          omega
        rw [e]
        exact w_zip ta hl h (by have := cnt_le t.tk n; omega)
    · rw [decide_eq_false (show ¬ (0 : Int) < m by omega), if_neg (by decide), if_neg (by decide)]
      have e : m = cnt t.tk n := by omega
      subst e
      exact w_zip ta hl h (by have := cnt_le t.tk n; omega)
end
end L

namespace L
open PySem PySem.Spec PyProof.Rows L2 Z M MR MT X2
open _root_.SX (S S_len S_cat S_inj)
section
variable {P : Program} {w : World} {K : PySem.W.Frag} {mg : Str → Option Value} {base : Heap}
def spProp (K : PySem.W.Frag) (CT CW : Addr) (T : Tb) : Sp := fun vs H Q _ => ∃ (x : WS) (k : Nat), vs = [.ref x.o] ∧ WOk K CT CW H x ∧ WInv x k ∧
  (∀ H' y, DX T x.mut y.mut H H' → WOk K CT CW H' y → Ext x y → WInv y y.rs.length → y.D.fr = [] → Q .non H') ∧
  (∀ H' y n c k', DX T x.mut y.mut H H' → WOk K CT CW H' y → Ext x y → WInv y k' → x.cst[n]? = some c → x.fgf n = false → (∀ z ∈ c, -z ∈ lits y.rs) → Q (.int (n : Int)) H')
/-- self._trail.put_since(self._seen) -/
theorem w_since {T : Txt K mg} {H : Hp} {y : WS} {σ : L2.St} {Q : VK} (ok : WOk K T.C_Trail T.C_Watching H y) (hl : y.rs.length ≤ 50)
    (q : ∀ (a : Addr) (ts : List Addr) (H' : Hp), Same H H' → H a = none → (∀ b ∈ ts, H b = none) → H' a = some (.lst (ts.map V.ref)) → ts.length = y.rs.length - cnt y.t.tk y.D.sn →
    (∀ (j : Nat) (b : Addr) (k : Nat) (l : Int), ts[j]? = some b → y.t.tk[cnt y.t.tk y.D.sn + j]? = some k → (lits y.rs)[cnt y.t.tk y.D.sn + j]? = some l → H' b = some (.tup [.int (k : Int), .int l])) → Q (.ref a) H') :
    tMeth T.C_Trail "put_since" (spSince T.C_Trail) [] E0 (tFld K (tVar 0) "_trail") (tCons (tFld K (tVar 0) "_seen") tNil) (some (.ref y.o) :: σ) H Q :=
  w_methF (w_fldT T.cl_Watching T.n_Watching__trail ok.wa.obj rfl ⟨y.tr, y.t.dx, _, rfl, ok.ta.obj, by rfl, Z.w_cons (w_fldT T.cl_Watching T.n_Watching__seen ok.wa.obj rfl (Z.w_nil ⟨y.tr, y.t, y.ns, y.rs, y.D.sn, rfl, ok.ta, hl, q⟩))⟩)
def WS.sen (y : WS) (s : Nat) : WS := { y with D := { y.D with sn := s } }
/-- self._seen = s -/
theorem asg_seen {CT CW : Addr} {Tt : Tb} {H : Hp} {y : WS} (ok : WOk K CT CW H y) (s : Nat) : DX Tt y.mut (y.sen s).mut H (upd H y.o (.ins CW y.R.dx (y.R.fs y.tr s))) ∧ WOk K CT CW (upd H y.o (.ins CW y.R.dx (y.R.fs y.tr s))) (y.sen s) := by
  have mo : y.o ∈ y.wm := List.mem_append_left _ (by simp)
  exact ⟨ok.putD mo (fun c hc => hc), ok.put mo (ok.wa.setN s) fun c hc => .inl hc⟩
theorem TI.succ {t : WA.Tr} {d k : Nat} (h : WA.TI t d k) (hk : k < t.length) : WA.TI t d (k + 1) := ⟨hk, h.nd, h.top, fun i p hi e => h.unv i p (by omega) e⟩
theorem cnt_succ {tk : List Nat} {k a : Nat} (hp : tk.Pairwise (· < ·)) (h : tk[k]? = some a) : cnt tk (a + 1) = k + 1 := by
  have h1 := (asc_count hp h (n := a + 1)).mp (Nat.lt_succ_self _)
  have h3 : cnt tk (a + 1) ≤ tk.length := cnt_le _ _
  have e : cnt tk (a + 1) = tk.countP fun b => decide (b < a + 1) := rfl
  by_cases hk : k + 1 < tk.length
  · have hx : tk[k + 1]? = some tk[k + 1] := List.getElem?_eq_getElem hk
    have h2 := asc_count hp hx (n := a + 1)
    have h4 : a < tk[k + 1] := by
      obtain ⟨hk1, e1⟩ := List.getElem?_eq_some_iff.mp h
      rw [← e1]
      exact List.pairwise_iff_getElem.mp hp k (k + 1) hk1 hk (Nat.lt_succ_self _)
    omega
  · have := (List.getElem?_eq_some_iff.mp h).1
    omega
theorem WInv.seen {CT : Addr} {H : Hp} {y : WS} {k a : Nat} (b : WB y k) (ta : TrAt CT H y.tr y.t y.ns y.rs) (fr : y.D.fr = []) (ci : WA.CI (tl y.rs) (dep y.rs) (fun _ => k + 1) y.cst y.D.wp y.fgf [] y.D.wt) (li : WA.LI y.D.cs.length y.D.wt) (h : y.t.tk[k]? = some a) : WInv (y.sen (a + 1)) (k + 1) := by
  obtain ⟨_, h1, h2, h3⟩ := ta.tic
  have hk := (List.getElem?_eq_some_iff.mp h).1
  refine ⟨cnt_succ h2 h, h3 a (List.mem_of_getElem? h), TI.succ b.ti (by rw [tl_len]; show k < y.rs.length; omega), b.lit, b.cl, b.nsb, b.nsl, ?_, li, b.frl, b.fln, b.cln, b.frn, b.son, b.key⟩
  show WA.CI _ _ _ _ _ _ y.D.fr _
  rw [fr]
  exact ci
/-- within propagate: i pairs of the list q were visited since y -/
structure PW (K : PySem.W.Frag) (CT CW : Addr) (T : Tb) (H H' : Hp) (x y z : WS) (k i : Nat) (q : Addr) (ts : List Addr) : Prop where
  dx : DX T x.mut z.mut H H'
  ok : WOk K CT CW H' z
  ext : Ext x z
  eyz : Ext y z
  inv : WInv z (k + i)
  fr : z.D.fr = []
  qn : q ∉ z.mut
  ql : H' q = some (.lst (ts.map V.ref))
  tn : ∀ a ∈ ts, a ∉ z.mut
  tl : ts.length = y.rs.length - k
  tk : y.t.tk.length = y.rs.length
  tt : ∀ (j : Nat) (a : Addr) (t : Nat) (l : Int), ts[j]? = some a → y.t.tk[k + j]? = some t → (lits y.rs)[k + j]? = some l → H' a = some (.tup [.int (t : Int), .int l])
theorem PW.next {CT CW : Addr} {T : Tb} {H H1 H2 : Hp} {x y z z2 : WS} {k i : Nat} {q : Addr} {ts : List Addr} (h : PW K CT CW T H H1 x y z k i q ts) (d : DX T z.mut z2.mut H1 H2) (ok : WOk K CT CW H2 z2) (e : Ext z z2) (inv : WInv z2 (k + i + 1)) (fr : z2.D.fr = []) : PW K CT CW T H H2 x y z2 k (i + 1) q ts := by
  have nm : ∀ {a : Addr} {o : HO}, a ∉ z.mut → H1 a = some o → (∀ ps, o ≠ .tbl ps) → a ∉ z2.mut := fun {a o} h e n z => by
    rcases d.nw a z with q | q
    · exact h q
    · obtain ⟨ps, hp⟩ := q _ e
      exact n ps hp
  have tl_ := h.tl
  have tk_ := h.tk
  have at_ : ∀ (j : Nat) (a : Addr), ts[j]? = some a → ∃ (t : Nat) (l : Int), y.t.tk[k + j]? = some t ∧ (lits y.rs)[k + j]? = some l := fun j a ha => by
    have hj := (List.getElem?_eq_some_iff.mp ha).1
    exact ⟨_, _, List.getElem?_eq_getElem (by omega), List.getElem?_eq_getElem (by rw [lits_len]; omega)⟩
  refine ⟨h.dx.trans d, ok, h.ext.trans e, h.eyz.trans e, inv, fr, nm h.qn h.ql (by simp), d.kp _ _ h.qn (by simp) h.ql, fun a ha => ?_, h.tl, h.tk, fun j a t l e1 e2 e3 => ?_⟩
  · obtain ⟨j, hj⟩ := List.mem_iff_getElem?.mp ha
    obtain ⟨t, l, e1, e2⟩ := at_ j a hj
    exact nm (h.tn a ha) (h.tt j a t l hj e1 e2) (by simp)
  · exact d.kp _ _ (h.tn a (List.mem_of_getElem? e1)) (by simp) (h.tt j a t l e1 e2 e3)
theorem PW.start {CT CW : Addr} {T : Tb} {H H1 H2 : Hp} {x y : WS} {k : Nat} {q : Addr} {ts : List Addr} (d : DX T x.mut y.mut H H1) (ok : WOk K CT CW H1 y) (e : Ext x y) (inv : WInv y k) (fr : y.D.fr = []) (s : Same H1 H2) (hq : H1 q = none) (ht : ∀ b ∈ ts, H1 b = none) (ql : H2 q = some (.lst (ts.map V.ref))) (lt : ts.length = y.rs.length - cnt y.t.tk y.D.sn)
    (tt : ∀ (j : Nat) (b : Addr) (k : Nat) (l : Int), ts[j]? = some b → y.t.tk[cnt y.t.tk y.D.sn + j]? = some k → (lits y.rs)[cnt y.t.tk y.D.sn + j]? = some l → H2 b = some (.tup [.int (k : Int), .int l])) : PW K CT CW T H H2 x y y k 0 q ts := by
  have vis : cnt y.t.tk y.D.sn = k := inv.vis
  rw [vis] at lt tt
  have nm : ∀ {a : Addr}, H1 a = none → a ∉ y.mut := fun {a} e z => by
    obtain ⟨u, h, _⟩ := ok.mu a z
    rw [e] at h
    cases h
  exact ⟨d.same s, ok.same s, e, .refl y, inv, fr, nm hq, ql, fun a ha => nm (ht a ha), lt, ok.ta.tic.2.1, tt⟩
theorem ok_prop (T : Txt K mg) {Tt : Tb} : FnOk P w K mg base CX0 10 T.f_Watching_propagate T.fd_Watching_propagate ["self"] (spProp K T.C_Trail T.C_Watching Tt) := by
  have G_Watching_look_at_fresh := ok_fresh (P := P) (w := w) (base := base) T (Tt := Tt)
  have G_Watching_visit := ok_visit (P := P) (w := w) (base := base) T (Tt := Tt)
  have G_Trail_put_since := ok_since (P := P) (w := w) (base := base) T
  refine T.F_Watching_propagate.ok sc_Watching_propagate (fun vs H Q E h => ?_) (fun cdv A outer s H vs Q E hr h => ?_)
  · obtain ⟨x, k, rfl, _⟩ := h
    rfl
  · obtain ⟨x, k, rfl, ok, inv, h1, h2⟩ := h
    refine ⟨_, (pss_cons (ps_set (i := 1) sc_Watching_propagate.nd rfl (.inl rfl) (pe_meth0 (pv 0) T.cl_Watching T.M_Watching_look_at_fresh G_Watching_look_at_fresh (hr.mono (by first | decide | omega)) T.b_Watching_look_at_fresh .nil pass0))
 (pss_cons (ps_set (i := 2) sc_Watching_propagate.nd rfl (.inl rfl) (pe_meth (pe_fld (pv 0) rfl) T.cl_Trail T.M_Trail_put_since G_Trail_put_since (hr.mono (by first | decide | omega)) T.b_Trail_put_since .nil pass0 (pa_cons (pe_fld (pv 0) rfl) pa_nil)))
 (pss_cons (ps_while PassesOwn.never (PW.pt (pw_and (pt_truth (pv 2) (by intro _; rfl)) (pw_and1 (pt_cmpR op_isN (pv 1) pe_non (nomark _))))) (pss_cons (ps_for PassesOwn.never rfl (pi_list (pv 2)) (pg_tup (by rfl) (pgs_cons (pg_name (i := 3) sc_Watching_propagate.nd rfl (.inl rfl)) (pgs_cons (pg_name (i := 4) sc_Watching_propagate.nd rfl (.inl rfl)) pgs_nil))) (pss_cons (ps_set (i := 1) sc_Watching_propagate.nd rfl (.inl rfl) (pe_meth (pv 0) T.cl_Watching T.M_Watching_visit G_Watching_visit (hr.mono (by first | decide | omega)) T.b_Watching_visit .nil pass0 (pa_cons (pe_un un_neg (pv 4)) pa_nil)))
 (pss_cons (ps_if (pt_cmpR op_notN (pv 1) pe_non (nomark _)) (pss_one (ps_ret (pv 1))) pss_nil)
 (pss_one (ps_fld (pv 0) (pe_op op_add (pv 3) pe_int) rfl)))))
 (pss_one (ps_set (i := 2) sc_Watching_propagate.nd rfl (.inl rfl) (pe_meth (pe_fld (pv 0) rfl) T.cl_Trail T.M_Trail_put_since G_Trail_put_since (hr.mono (by first | decide | omega)) T.b_Trail_put_since .nil pass0 (pa_cons (pe_fld (pv 0) rfl) pa_nil))))))
 (pss_one (ps_ret (pv 1)))))), ?_⟩
    refine Z.w_start (σ' := [some (.ref x.o), none, none, none, none]) rfl ?_
    walk_at "w"
    refine w_meth0 ok.wa.obj rfl (by rfl) ?_
    walk_at "w"
    refine ⟨x, k, rfl, ok, inv, fun H1 y d ok1 ex iv fr => ?_, fun H1 y n c d ok1 ex iv hc hg hf => ?_⟩
    · have eo : y.o = x.o := ex.o
      rw [← eo]
      walk_at "w"
      refine w_since ok1 iv.rl fun q ts H2 sm nq nt ql lt tt => ?_
      have W := PW.start d ok1 ex iv fr sm nq nt ql lt tt
      walk_at "w"
      refine w_while ⟨fun m σ H' => ∃ (y : WS) (k : Nat) (q : Addr) (ts : List Addr) (x3 x4 : Option L2.V), σ = [some (.ref x.o), some .non, some (.ref q), x3, x4] ∧ PW K T.C_Trail T.C_Watching Tt H H' x y y k 0 q ts ∧ 50 - k = m, ⟨_, y, k, q, ts, _, _, by rw [eo], W, rfl⟩, ?_⟩
      clear W tt lt ql nt nq sm fr iv ex ok1 d eo
      rintro m σ H1 ⟨y, k, q, ts, x3, x4, rfl, W, rfl⟩
      have hq := W.ql
      walk_at "w"
      refine ⟨!(ts.map L2.V.ref).isEmpty, .inl ⟨_, .inl (.inl hq), rfl⟩, ?_⟩
      by_cases ht : ts = []
      · subst ht
        simp only [List.map_nil, List.isEmpty_nil, Bool.not_true, Bool.false_eq_true, if_false]
        walk_at "w"
        have e := W.tl
        rw [List.length_nil] at e
        have kle := W.inv.ti.kle
        rw [tl_len] at kle
        have hi := W.inv
        rw [show k + 0 = y.rs.length by omega] at hi
        exact h1 _ y W.dx W.ok W.ext hi W.fr
      · have e : (ts.map L2.V.ref).isEmpty = false := by
          cases ts with
          | nil => exact absurd rfl ht
          | cons a r => rfl
        rw [e]
        simp only [Bool.not_false, if_true]
        walk_at "w"
        refine ⟨fun σ H' => ∃ (y : WS) (k' : Nat) (q : Addr) (ts : List Addr) (x3 x4 : Option L2.V), σ = [some (.ref x.o), some .non, some (.ref q), x3, x4] ∧ PW K T.C_Trail T.C_Watching Tt H H' x y y k' 0 q ts ∧ 50 - k' < 50 - k, fun σ' H' ⟨y, k', q, ts, x3, x4, e, W, h⟩ => ⟨50 - k', h, y, k', q, ts, x3, x4, e, W, rfl⟩, ?_⟩
        walk_at "w"
        refine for_list (xs := ts.map L2.V.ref) (fun i σ H' => ∃ (z : WS) (x3 x4 : Option L2.V), σ = [some (.ref x.o), some .non, some (.ref q), x3, x4] ∧ PW K T.C_Trail T.C_Watching Tt H H' x y z k i q ts) ?_ ?_ ?_ ?_
        · exact ⟨y, _, _, rfl, W⟩
        · rintro i σ H' hi ⟨z, x3, x4, rfl, W⟩
          exact .inl (.inl W.ql)
        · rintro i v σ H' hx ⟨z, x3, x4, rfl, W⟩
          rw [List.getElem?_map] at hx
          obtain ⟨a, ha, rfl⟩ := Option.map_eq_some_iff.mp hx
          have hil := (List.getElem?_eq_some_iff.mp ha).1
          have tl_ := W.tl
          have tk_ := W.tk
          have hkl : k + i < y.rs.length := by omega
          have et : y.t.tk[k + i]? = some y.t.tk[k + i] := List.getElem?_eq_getElem (by omega)
          have el : (lits y.rs)[k + i]? = some ((lits y.rs)[k + i]'(by rw [lits_len]; exact hkl)) := List.getElem?_eq_getElem (by rw [lits_len]; exact hkl)
          generalize y.t.tk[k + i] = t at et
          generalize (lits y.rs)[k + i]'(by rw [lits_len]; exact hkl) = l at el
          have htu := W.tt i a t l ha et el
          have elz : (lits z.rs)[k + i]? = some l := by
            obtain ⟨r, hr⟩ := W.eyz.gr.pre
            rw [← hr]
            unfold lits
            rw [List.map_append]
            exact (List.getElem?_append_left (List.getElem?_eq_some_iff.mp el).1).trans el
          have eo : z.o = x.o := W.ext.o
          rw [← eo]
          walk_at "w"
          refine w_meth0 W.ok.wa.obj rfl (by rfl) ?_
          walk_at "w"
          have hlz : (l.natAbs : Int) ∈ z.ns := W.inv.lit l (List.mem_of_getElem? elz)
          obtain ⟨v, hv⟩ : ∃ v, (tl z.rs)[k + i]? = some (l, v) := by
            have hl : k + i < (tl z.rs).length := by
              have := (List.getElem?_eq_some_iff.mp elz).1
              rw [lits_len] at this
              rw [tl_len]
              exact this
            have e := (tl_at.mp (List.getElem?_eq_getElem hl)).1
            rw [elz] at e
            refine ⟨(tl z.rs)[k + i].2, ?_⟩
            rw [List.getElem?_eq_getElem hl]
            congr 1
            rw [Option.some.inj e]
          refine ⟨z, k + i, -l, rfl, W.ok, W.inv, W.fr, by rw [Int.natAbs_neg]; exact hlz, ⟨v, by rw [Int.neg_neg]; exact hv⟩, fun H2 z2 V => ?_, fun H2 z2 n c V hc hg hf => ?_⟩
          · have eo2 : z2.o = z.o := V.ext.o
            rw [← eo2]
            walk_at "w"
            try dsimp only
            refine L.w_fld ?_
            walk_at "w"
            refine ⟨z2.o, T.C_Watching, z2.R.dx, _, rfl, V.ok.wa.obj, T.cl_Watching, T.n_Watching__seen, (show 8 < 1000 by decide), ?_⟩
            have et2 : z2.t.tk[k + i]? = some t := by
              obtain ⟨r, hr⟩ := (W.eyz.trans V.ext).tkp
              rw [← hr]
              exact (List.getElem?_append_left (List.getElem?_eq_some_iff.mp et).1).trans et
            obtain ⟨d3, ok3⟩ := asg_seen (Tt := Tt) V.ok (t + 1)
            walk_at "w"
            rw [eo2, eo]
            refine ⟨z2.sen (t + 1), _, _, rfl, ?_⟩
            have := W.next (V.dx.trans d3) ok3 (V.ext.trans ⟨rfl, rfl, rfl, rfl, rfl, rfl, rfl, .refl, List.prefix_refl _⟩) (WInv.seen V.b V.ok.ta V.fr V.ci V.li et2) V.fr
            rw [eo2, eo] at this
            exact this
          · walk_at "w"
            refine h2 _ z2 n c (k + i) (W.dx.trans V.dx) V.ok (W.ext.trans V.ext) (V.b.inv ?_ V.li) ?_ ?_ hf
            · rw [V.fr]
              exact V.ci
            · rw [← hc]
              exact congrArg (fun cs => (cs.map (·.2))[n]?) W.ext.cs.symm
            · rw [← hg]
              exact congrArg (fun fg => fg.getD n false) W.ext.fg.symm
        · rintro σ H' ⟨z, x3, x4, rfl, W⟩
          rw [List.length_map] at W
          have eo : z.o = x.o := W.ext.o
          rw [← eo]
          walk_at "w"
          refine w_since W.ok W.inv.rl fun q2 ts2 H2 sm nq nt ql lt tt => ?_
          have W2 := PW.start W.dx W.ok W.ext W.inv W.fr sm nq nt ql lt tt
          walk_at "w"
          refine ⟨z, _, q2, ts2, _, _, by rw [eo], W2, ?_⟩
          have kle := W.inv.ti.kle
          have := W.inv.rl
          rw [tl_len] at kle
          have := List.length_pos_iff.mpr ht
          omega
    · have eo : y.o = x.o := ex.o
      rw [← eo]
      walk_at "w"
      refine w_since ok1 iv.rl fun q ts H2 sm nq nt ql lt tt => ?_
      walk_at "w"
      refine w_while ⟨fun m σ H' => m = 0 ∧ σ = [some (.ref y.o), some (.int (n : Int)), some (.ref q), none, none] ∧ H' = H2, ⟨_, rfl, rfl, rfl⟩, ?_⟩
      rintro m σ H' ⟨rfl, rfl, rfl⟩
      walk_at "w"
      refine ⟨!(ts.map L2.V.ref).isEmpty, .inl ⟨_, .inl (.inl ql), rfl⟩, ?_⟩
      have hd := h2 _ y n c k (d.same sm) (ok1.same sm) ex iv hc hg hf
      cases (ts.map L2.V.ref).isEmpty with
      | true =>
        simp only [Bool.not_true, Bool.false_eq_true, if_false]
        walk_at "w"
        exact hd
      | false =>
        simp only [Bool.not_false, if_true]
        refine Z.w_test (Z.w_op (Z.w_var (v := V.int (n : Int)) rfl (Z.w_c ⟨rfl, ⟨false, rfl, ?_⟩⟩)))
        rw [if_neg (by decide)]
        walk_at "w"
        exact hd
end
end L

namespace L
open PySem PySem.Spec PyProof.Rows L2 Z M MR MT X2
open _root_.SX (S S_len S_cat S_inj)
section
variable {P : Program} {w : World} {K : PySem.W.Frag} {mg : Str → Option Value} {base : Heap}
def spWatched (K : PySem.W.Frag) (CT CW : Addr) : Sp := fun vs H Q _ => ∃ (x : WS) (n : Nat) (w : List Int), vs = [.ref x.o, .int (n : Int)] ∧ WOk K CT CW H x ∧ x.D.wp[n]? = some w ∧ ∀ a, SqT K H a (w.map V.int) → Q (.ref a) H
theorem ok_watched (T : Txt K mg) : FnOk P w K mg base CX0 1 T.f_Watching_watched T.fd_Watching_watched ["self", "number"] (spWatched K T.C_Trail T.C_Watching) := by
  refine T.F_Watching_watched.ok sc_Watching_watched (fun vs H Q E h => ?_) (fun cdv A outer s H vs Q E hr h => ?_)
  · obtain ⟨x, n, ws, rfl, _⟩ := h
    rfl
  · obtain ⟨x, n, ws, rfl, ok, hn, h⟩ := h
    obtain ⟨xs, a, hw, ha, hS⟩ := wp_at ok.wa hn
    refine ⟨_, (pss_one (ps_ret (pe_ix ix_list (pe_fld (pv 0) rfl) (pv 1) (fun _ _ => rfl)))), ?_⟩
    refine Z.w_start (σ' := [some (.ref x.o), some (.int (n:Int))]) rfl ?_
    walk_at "w"
    refine w_fldT T.cl_Watching T.n_Watching__watched ok.wa.obj rfl ?_
    walk_at "w"
    exact h a hS
def WS.fgt (y : WS) (n : Nat) : WS := { y with D := { y.D with fg := y.D.fg.set n true } }
def spForget (K : PySem.W.Frag) (CT CW : Addr) (T : Tb) : Sp := fun vs H Q _ => ∃ (x : WS) (n : Nat), vs = [.ref x.o, .int (n : Int)] ∧ WOk K CT CW H x ∧ n < x.D.fg.length ∧ x.D.fg.length ≤ 1000 ∧ x.D.fg.getD n false = false ∧
  ∀ H', DX T x.mut (x.fgt n).mut H H' → WOk K CT CW H' (x.fgt n) → Q .non H'
theorem ok_forget (T : Txt K mg) {Tt : Tb} : FnOk P w K mg base CX0 1 T.f_Watching_forget T.fd_Watching_forget ["self", "number"] (spForget K T.C_Trail T.C_Watching Tt) := by
  refine T.F_Watching_forget.ok sc_Watching_forget (fun vs H Q E h => ?_) (fun cdv A outer s H vs Q E hr h => ?_)
  · obtain ⟨x, n, rfl, _⟩ := h
    rfl
  · obtain ⟨x, n, rfl, ok, hn, hl, hg, h⟩ := h
    obtain ⟨kf, hf, h3, h4⟩ := ok.wa.df
    refine ⟨_, (pss_one (ps_dput (hu_of hr) (pe_fld (pv 0) rfl) (pv 1) pe_bl rfl)), ?_⟩
    refine Z.w_start (σ' := [some (.ref x.o), some (.int (n:Int))]) rfl ?_
    walk_at "w"
    refine w_fldT T.cl_Watching T.n_Watching__forgotten ok.wa.obj rfl ?_
    walk_at "w"
    have mb : x.R.df ∈ x.wm := List.mem_append_left _ (by simp)
    have hc : x.D.fg.count true ≤ x.D.fg.length := List.count_le_length
    refine ⟨x.R.df, _, rfl, DPut.k (k := Sum.inl (n : Int)) hf (Nat.lt_of_le_of_lt (show kf.length ≤ 1000 by omega) (by decide)), ?_⟩
    walk_at "w"
    exact h _ (ok.putD mb fun c hc => hc) (ok.put mb (ok.wa.setG hf hn hg _ h3 h4) fun c hc => .inl hc)
def spWMk (K : PySem.W.Frag) (C : Addr) : Sp := fun vs H Q _ => ∃ (o tr dx : Addr) (H0 : Hp), vs = [.ref o, .ref tr] ∧ H = upd (upd H0 dx (.own o)) o (.ins C dx []) ∧ H0 o = none ∧ H0 dx = none ∧ dx ≠ o ∧
  ∀ R H', Same H0 H' → (∀ b ∈ wmut o R, H0 b = none) → R.wl = [] → WAt K C H' o tr R ⟨[], [], [], [], [], 0, fun _ => []⟩ → Q .non H'
theorem w_initV {C o dx : Addr} {f : Str} {v : V} {i : Nat} {D : Ends} {σ : L2.St} {H0 H : Hp} {fs : List (Str × V)} {os : List (Addr × HO)} (h : InitSt H0 H o C dx fs os) (h0 : H0 o = none) (hc : Cls K C) (hn : NoAttr K C f) (nm : List Str) (e : fs.map (·.1) = nm) (hf : f ∉ nm) (hl : fs.length < 1000) (hi : σ[i]? = some (some v)) (q : ∀ H', InitSt H0 H' o C dx (fs ++ [(f, v)]) os → D.nx (some (.ref o) :: σ) H') : sFld K (tVar 0) (tVar (i + 1)) f D (some (.ref o) :: σ) H :=
  w_fld (Z.w_var (v := v) hi (Z.w_var (v := V.ref o) rfl ⟨o, C, dx, fs, rfl, h.ob, hc, hn, hl, by rw [putF_new (by rw [e]; exact hf)]; exact q _ ⟨same_mut h.sm h0, upd_same, fun p hp => by
    obtain ⟨g1, g2, g3⟩ := h.all p hp
    exact ⟨by rw [upd_ne g3]; exact g1, g2, g3⟩, h.nd⟩⟩))
theorem w_winit (T : Txt K mg) {σ : L2.St} {H0 Hc : Hp} {o dx tr : Addr} (h0 : H0 o = none) (hI : InitSt H0 Hc o T.C_Watching dx [] []) {Q : VK} (hi : σ[0]? = some (some (.ref tr)))
  (h : ∀ R H', Same H0 H' → (∀ b ∈ wmut o R, H0 b = none) → R.wl = [] → WAt K T.C_Watching H' o tr R ⟨[], [], [], [], [], 0, fun _ => []⟩ → Q .non H')
  {t0 t1 t2 t3 t4 t5 t6 t7 : TS} {Dn : Ends} (e0 : t0 = sFld K (tVar 0) (tVar 1) "_trail") (e1 : t1 = sFld K (tVar 0) (tLst tNil) "_clauses") (e2 : t2 = sFld K (tVar 0) (tLst tNil) "_sources") (e3 : t3 = sFld K (tVar 0) (tLst tNil) "_watched") (e4 : t4 = sFld K (tVar 0) tDNewK "_watchers") (e5 : t5 = sFld K (tVar 0) tDNewK "_forgotten") (e6 : t6 = sFld K (tVar 0) (tLst tNil) "_fresh") (e7 : t7 = sFld K (tVar 0) (tC (.int 0)) "_seen") (eD : Dn.nx = fun _ H' => Q .non H') :
    tSeq t0 (tSeq t1 (tSeq t2 (tSeq t3 (tSeq t4 (tSeq t5 (tSeq t6 t7)))))) Dn (some (.ref o) :: σ) Hc := by
  subst e0 e1 e2 e3 e4 e5 e6 e7
  refine w_seq (w_initV hI h0 T.cl_Watching T.n_Watching__trail [] rfl (by simp) (show 0 < 1000 by decide) hi fun H1 h1 => ?_)
  refine w_seq (w_initL h1 h0 T.cl_Watching T.n_Watching__clauses ["_trail"] rfl (by decide +kernel) (show 1 < 1000 by decide) fun l1 H1 h1 => ?_)
  refine w_seq (w_initL h1 h0 T.cl_Watching T.n_Watching__sources ["_trail", "_clauses"] rfl (by decide +kernel) (show 2 < 1000 by decide) fun l2 H2 h2 => ?_)
  refine w_seq (w_initL h2 h0 T.cl_Watching T.n_Watching__watched ["_trail", "_clauses", "_sources"] rfl (by decide +kernel) (show 3 < 1000 by decide) fun l3 H3 h3 => ?_)
  refine w_seq (w_initD h3 h0 T.cl_Watching T.n_Watching__watchers ["_trail", "_clauses", "_sources", "_watched"] rfl (by decide +kernel) (show 4 < 1000 by decide) fun l4 H4 h4 => ?_)
  refine w_seq (w_initD h4 h0 T.cl_Watching T.n_Watching__forgotten ["_trail", "_clauses", "_sources", "_watched", "_watchers"] rfl (by decide +kernel) (show 5 < 1000 by decide) fun l5 H5 h5 => ?_)
  refine w_seq (w_initL h5 h0 T.cl_Watching T.n_Watching__fresh ["_trail", "_clauses", "_sources", "_watched", "_watchers", "_forgotten"] rfl (by decide +kernel) (show 6 < 1000 by decide) fun l6 H6 h6 => ?_)
  refine w_initC h6 h0 T.cl_Watching T.n_Watching__seen ["_trail", "_clauses", "_sources", "_watched", "_watchers", "_forgotten", "_fresh"] rfl (by decide +kernel) (show 7 < 1000 by decide) fun H7 h7 => ?_
  obtain ⟨sm, ob, all, nd⟩ := h7
  rw [eD]
  simp only [List.cons_append, List.nil_append] at all
  simp only [List.cons_append, List.nil_append, List.map_cons, List.map_nil, List.nodup_cons, List.mem_cons, List.not_mem_nil, or_false, not_or, not_false_eq_true, List.nodup_nil, and_true] at nd
  obtain ⟨⟨d1, d2, d3, d4, d5⟩, ⟨d7, d8, d9, d10⟩, ⟨d12, d13, d14⟩, ⟨d16, d17⟩, d19⟩ := nd
  have hne : ∀ p ∈ [(l1, HO.lst []), (l2, HO.lst []), (l3, HO.lst []), (l4, HO.dK []), (l5, HO.dK []), (l6, HO.lst [])], H7 p.1 = some p.2 := fun p hp => (all p hp).1
  refine h ⟨dx, l1, l2, l3, l4, l5, l6, []⟩ _ sm (fun b hb => ?_) rfl ?_
  · have hb : b ∈ [o, l1, l2, l3, l4, l5, l6] := by simpa [wmut] using hb
    simp only [List.mem_cons, List.not_mem_nil, or_false] at hb
    rcases hb with rfl | rfl | rfl | rfl | rfl | rfl | rfl
    · exact h0
    · exact (all (b, .lst []) (by simp)).2.1
    · exact (all (b, .lst []) (by simp)).2.1
    · exact (all (b, .lst []) (by simp)).2.1
    · exact (all (b, .dK []) (by simp)).2.1
    · exact (all (b, .dK []) (by simp)).2.1
    · exact (all (b, .lst []) (by simp)).2.1
  · refine ⟨ob, hne (l1, .lst []) (by simp), (fun c hc => by cases hc), hne (l2, .lst []) (by simp), ⟨[], hne (l3, .lst []) (by simp), rfl, fun n a ws e => by simp at e⟩, hne (l4, .dK []) (by simp), (fun p hp => by cases hp), fun l _ => rfl, List.nodup_nil, ⟨[], hne (l5, .dK []) (by simp), Nat.zero_le _, fun n => rfl⟩, hne (l6, .lst []) (by simp), d16, ?_⟩
    simp only [List.map_nil, List.append_nil, List.nodup_cons, List.mem_cons, List.not_mem_nil, or_false, not_or, not_false_eq_true, List.nodup_nil, and_true]
    exact ⟨⟨d1, d2, d5⟩, ⟨d7, d10⟩, d14⟩
theorem ok_winit (T : Txt K mg) : FnOk P w K mg base CX0 1 T.f_Watching_init T.fd_Watching_init ["self", "trail"] (spWMk K T.C_Watching) := by
  refine T.F_Watching_init.ok sc_Watching_init (fun vs H Q E h => ?_) (fun cdv A outer s H vs Q E hr h => ?_)
  · obtain ⟨o, tr, dx, H0, rfl, _⟩ := h
    rfl
  · obtain ⟨o, tr, dx, H0, rfl, rfl, h0, hdx, hne, h⟩ := h
    refine ⟨_, (pss_cons (ps_fld (pv 0) (pv 1) rfl)
 (pss_cons (ps_fld (pv 0) (pe_lst pa_nil) rfl)
 (pss_cons (ps_fld (pv 0) (pe_lst pa_nil) rfl)
 (pss_cons (ps_fld (pv 0) (pe_lst pa_nil) rfl)
 (pss_cons (ps_fld (pv 0) pe_dnewK rfl)
 (pss_cons (ps_fld (pv 0) pe_dnewK rfl)
 (pss_cons (ps_fld (pv 0) (pe_lst pa_nil) rfl)
 (pss_one (ps_fld (pv 0) pe_int rfl))))))))), ?_⟩
    refine Z.w_start (σ' := [some (.ref o), some (.ref tr)]) rfl ?_
    have hI : InitSt H0 (upd (upd H0 dx (.own o)) o (.ins T.C_Watching dx [])) o T.C_Watching dx [] [] := ⟨same_mut (same_of (Same.refl _) hdx) h0, upd_same, (fun p hp => by cases hp), List.nodup_nil⟩
    generalize upd (upd H0 dx (HO.own o)) o (HO.ins T.C_Watching dx []) = Hc at *
    with_reducible refine' w_winit T h0 hI ?e00 h ?e0 ?e1 ?e2 ?e3 ?e4 ?e5 ?e6 ?e7 ?e8
    all_goals rfl
end
end L

namespace L
open PySem PySem.Spec PyProof.Rows L2 Z M MR MT X2
open _root_.SX (S S_len S_cat S_inj)
section
variable {P : Program} {w : World} {K : PySem.W.Frag} {mg : Str → Option Value} {base : Heap}
/-- None, a bool or a number -/
def FlV (v : V) : Prop := v = .non ∨ ∃ i, v = .int i
def spAlike : Sp := fun vs H Q _ => ∃ v : V, vs = [v, v] ∧ FlV v ∧ Q (.bl true) H
theorem use_alike {v : V} {H : Hp} {Q : VK} {E : XK} (h : FlV v) (q : Q (.bl true) H) : spAlike [v, v] H Q E := ⟨v, rfl, h, q⟩
theorem ok_alike (T : Txt K mg) : FnOk P w K mg base CX0 2 T.f_alike T.fd_alike ["_law_actual", "_law_expected"] spAlike := by
  have G_whole := ok_whole (P := P) (w := w) (base := base) T
  refine T.F_alike.ok sc_alike (fun vs H Q E h => ?_) (fun cdv A outer s H vs Q E hr h => ?_)
  · obtain ⟨v, rfl, _⟩ := h
    rfl
  · obtain ⟨v, rfl, hv, hq⟩ := h
    rcases hv with rfl | ⟨i, rfl⟩
    · refine ⟨_, (pss_cons (ps_if (pt_cmpR op_isN (pv 1) pe_non (nomark _)) (pss_one (ps_ret (pe_cmpR op_isN (pv 0) pe_non (nomark _)))) pss_nil)
 (pss_one (ps_ret (pe_and (pe_call G_whole (hr.mono (by first | decide | omega)) (by rfl) T.g_whole T.F_whole.kp T.b_whole .nil pass0 (pa_cons (pv 0) pa_nil)) (pe_one (pe_cmpR op_eq (pv 0) (pv 1) (nomark _))))))), ?_⟩
      refine Z.w_start (σ' := [some (V.non), some (V.non)]) rfl ?_
      walk_at "w"
      exact hq
    · refine ⟨_, (pss_cons (ps_if (pt_cmpR op_isN (pv 1) pe_non (nomark _)) (pss_one (ps_ret (pe_cmpR op_isN (pv 0) pe_non (nomark _)))) pss_nil)
 (pss_one (ps_ret (pe_and (pe_call G_whole (hr.mono (by first | decide | omega)) (by rfl) T.g_whole T.F_whole.kp T.b_whole .nil pass0 (pa_cons (pv 0) pa_nil)) (pe_one (pe_cmpR op_eq (pv 0) (pv 1) (nomark _))))))), ?_⟩
      refine Z.w_start (σ' := [some (.int i), some (.int i)]) rfl ?_
      walk_at "w"
      rw [decide_eq_true (rfl : i = i)]
      exact hq
def spList : Sp := fun vs H Q _ => ∃ (a b : Addr) (us : List V), vs = [.ref a, .ref b] ∧ H a = some (.lst us) ∧ H b = some (.lst us) ∧ (∀ u ∈ us, ∃ i, u = V.int i) ∧ us.length ≤ 1000 ∧ Q (.bl true) H
theorem use_list {a b : Addr} {us : List V} {H : Hp} {Q : VK} {E : XK} (h1 : H a = some (.lst us)) (h2 : H b = some (.lst us)) (h3 : ∀ u ∈ us, ∃ i, u = V.int i) (h4 : us.length ≤ 1000) (q : Q (.bl true) H) : spList [.ref a, .ref b] H Q E := ⟨a, b, us, rfl, h1, h2, h3, h4, q⟩
theorem ok_list (T : Txt K mg) : FnOk P w K mg base CX0 3 T.f_list T.fd_list ["_law_actual", "_law_expected"] spList := by
  have G_whole := ok_whole (P := P) (w := w) (base := base) T
  refine T.F_list.ok sc_list (fun vs H Q E h => ?_) (fun cdv A outer s H vs Q E hr h => ?_)
  · obtain ⟨a, b, us, rfl, _⟩ := h
    rfl
  · obtain ⟨a, b, us, rfl, ha, hb, hf, hl, h⟩ := h
    refine ⟨_, (pss_cons (ps_if (PW.pt (pw_or (pt_not (pt_val (pe_callB call_isi (by rfl) T.m_isinstance (by decide +kernel) (pa_cons (pv 0) (pa_cons (pe_bltn (v := .ty "list") (by rfl) T.m_list (by decide +kernel) rfl) pa_nil))))) (pw_or1 (pt_cmpR op_ne (pe_callB call_len_seq (by rfl) T.m_len (by decide +kernel) (pa_cons (pv 0) pa_nil)) (pe_callB call_len_seq (by rfl) T.m_len (by decide +kernel) (pa_cons (pv 1) pa_nil)) (nomark _))))) (pss_one (ps_ret pe_bl)) pss_nil)
 (pss_cons (ps_for PassesOwn.never rfl (pi_range1 (by rfl) T.m_range (pa_cons (pe_callB call_len_seq (by rfl) T.m_len (by decide +kernel) (pa_cons (pv 1) pa_nil)) pa_nil)) (pg_name (i := 2) sc_list.nd rfl (.inl rfl)) (pss_one (ps_if (PW.pt (pw_or (pt_not (pt_val (pe_call G_whole (hr.mono (by first | decide | omega)) (by rfl) T.g_whole T.F_whole.kp T.b_whole .nil pass0 (pa_cons (pe_ix ix_list (pv 0) (pv 2) (fun _ _ => rfl)) pa_nil)))) (pw_or1 (pt_cmpR op_ne (pe_ix ix_list (pv 0) (pv 2) (fun _ _ => rfl)) (pe_ix ix_list (pv 1) (pv 2) (fun _ _ => rfl)) (nomark _))))) (pss_one (ps_ret pe_bl)) pss_nil)))
 (pss_one (ps_ret pe_bl)))), ?_⟩
    refine Z.w_start (σ' := [some (.ref a), some (.ref b), none]) rfl ?_
    walk_at "w"
    refine ⟨by omega, by omega, ?_⟩
    refine for_range (fun i σ H' => ∃ x2, σ = [some (.ref a), some (.ref b), x2] ∧ H' = H) ⟨none, rfl, rfl⟩ ?_ ?_
    · rintro i σ H' hi ⟨x2, rfl, rfl⟩
      have hi2 : i < us.length := by omega
      have hx : us[i]? = some us[i] := List.getElem?_eq_getElem hi2
      obtain ⟨m, hm⟩ := hf _ (List.getElem_mem hi2)
      rw [hm] at hx
      have hat : atI us (0 + (i : Int)) = some (V.int m) := by rw [Int.zero_add]; exact atI_nat hx
      walk_at "w"
      rfl
    · rintro σ H' ⟨x2, rfl, rfl⟩
      walk_at "w"
      exact h
end
/-! comprehensions whose word looks at nothing new -/
section
variable {K : PySem.W.Frag} {α : Type} {a : Addr} {xs : List V} {g : TG} {tt : TT} {te : TE} {vs : List Nat} {σ : L2.St} {H1 : Hp} {D : Addr} {Qd : Hp → Prop}
theorem fm_take (l : List α) (f : α → Option V) {i : Nat} {y : α} (h : l[i]? = some y) : (l.take (i + 1)).filterMap f = (l.take i).filterMap f ++ (f y).toList := by
  rw [List.take_add_one, h, List.filterMap_append]
  refine congrArg _ ?_
  show List.filterMap f [y] = _
  cases e : f y with
  | none => rw [List.filterMap_cons_none e]; rfl
  | some v => rw [List.filterMap_cons_some e]; rfl
theorem fm_sz (l : List α) (f : α → Option V) (i : Nat) (h : l.length ≤ 1000) : ((l.take i).filterMap f).length < sizeLine := by
  refine Nat.lt_of_le_of_lt (Nat.le_trans (List.length_filterMap_le _ _) ?_) (show 1000 < sizeLine by decide)
  rw [List.length_take]
  omega
theorem lcl (l : List α) (f : α → Option V) (hl : xs.length = l.length) (sz : l.length ≤ 1000) (hD : H1 D = none) (src : SqL K H1 a xs)
    (hs : ∀ (i : Nat) (x : V) (y : α) (H : Hp) (acc : List V) (N : Hp → Prop), xs[i]? = some x → l[i]? = some y → Same H1 H → H D = some (.lst acc) → acc.length < sizeLine → (∀ v, f y = some v → N (upd H D (.lst (acc ++ [v])))) → (f y = none → N H) →
      g x (wipe σ vs) H fun σ2 H2 => wipe σ2 vs = wipe σ vs ∧ tt σ2 H2 fun b H3 => if b = true then te σ2 H3 fun y H4 => ∃ acc, H4 D = some (.lst acc) ∧ acc.length < sizeLine ∧ N (upd H4 D (.lst (acc ++ [y]))) else N H3)
    (hd : ∀ H, Same H1 H → H D = some (.lst (l.filterMap f)) → Qd H) :
    ∃ W : Nat → Nat → Hp → Prop, (∃ m, W 0 m (upd H1 D (.lst []))) ∧ ∀ i m H, W i m H →
      ((Itl K a).stop i H ∧ Qd H) ∨ ((Itl K a).go i H ∧ ∃ Nx : Hp → Prop, (∀ H', Nx H' → ∃ m', m' < m ∧ W (i + 1) m' H') ∧ ∀ x H', (Itl K a).yld i H x H' → g x (wipe σ vs) H' fun σ2 H2 => wipe σ2 vs = wipe σ vs ∧ tt σ2 H2 fun b H3 =>
        if b = true then te σ2 H3 fun y H4 => ∃ acc, H4 D = some (.lst acc) ∧ acc.length < sizeLine ∧ Nx (upd H4 D (.lst (acc ++ [y]))) else Nx H3) := by
  refine lc_list (xs := xs) (fun i H => Same H1 H ∧ H D = some (.lst ((l.take i).filterMap f))) ⟨same_of (Same.refl _) hD, upd_same⟩ (fun i H _ p => Evl.ex_l p.1 src) ?_ fun H p => ?_
  · rintro i x H hx ⟨sm, e⟩
    have hi : i < l.length := by rw [← hl]; exact (List.getElem?_eq_some_iff.mp hx).1
    have hy : l[i]? = some l[i] := List.getElem?_eq_getElem hi
    have ft := fm_take l f hy
    refine hs i x _ H _ _ hx hy sm e (fm_sz l f i sz) (fun v hv => ⟨same_mut sm hD, ?_⟩) fun hn => ⟨sm, ?_⟩
    · rw [upd_same, ft, hv]
      rfl
    · rw [ft, hn]
      simpa using e
  · rw [hl, List.take_length] at p
    exact hd H p.1 p.2
theorem lct (l : List α) (f : α → Option V) (hl : xs.length = l.length) (sz : l.length ≤ 1000) (hD : H1 D = none) (src : SqT K H1 a xs)
    (hs : ∀ (i : Nat) (x : V) (y : α) (H : Hp) (acc : List V) (N : Hp → Prop), xs[i]? = some x → l[i]? = some y → Same H1 H → H D = some (.lst acc) → acc.length < sizeLine → (∀ v, f y = some v → N (upd H D (.lst (acc ++ [v])))) → (f y = none → N H) →
      g x (wipe σ vs) H fun σ2 H2 => wipe σ2 vs = wipe σ vs ∧ tt σ2 H2 fun b H3 => if b = true then te σ2 H3 fun y H4 => ∃ acc, H4 D = some (.lst acc) ∧ acc.length < sizeLine ∧ N (upd H4 D (.lst (acc ++ [y]))) else N H3)
    (hd : ∀ H, Same H1 H → H D = some (.lst (l.filterMap f)) → Qd H) :
    ∃ W : Nat → Nat → Hp → Prop, (∃ m, W 0 m (upd H1 D (.lst []))) ∧ ∀ i m H, W i m H →
      ((Itt K a).stop i H ∧ Qd H) ∨ ((Itt K a).go i H ∧ ∃ Nx : Hp → Prop, (∀ H', Nx H' → ∃ m', m' < m ∧ W (i + 1) m' H') ∧ ∀ x H', (Itt K a).yld i H x H' → g x (wipe σ vs) H' fun σ2 H2 => wipe σ2 vs = wipe σ vs ∧ tt σ2 H2 fun b H3 =>
        if b = true then te σ2 H3 fun y H4 => ∃ acc, H4 D = some (.lst acc) ∧ acc.length < sizeLine ∧ Nx (upd H4 D (.lst (acc ++ [y]))) else Nx H3) := by
  refine lc_tup (xs := xs) (fun i H => Same H1 H ∧ H D = some (.lst ((l.take i).filterMap f))) ⟨same_of (Same.refl _) hD, upd_same⟩ (fun i H _ p => Evl.ex_t p.1 src) ?_ fun H p => ?_
  · rintro i x H hx ⟨sm, e⟩
    have hi : i < l.length := by rw [← hl]; exact (List.getElem?_eq_some_iff.mp hx).1
    have hy : l[i]? = some l[i] := List.getElem?_eq_getElem hi
    have ft := fm_take l f hy
    refine hs i x _ H _ _ hx hy sm e (fm_sz l f i sz) (fun v hv => ⟨same_mut sm hD, ?_⟩) fun hn => ⟨sm, ?_⟩
    · rw [upd_same, ft, hv]
      rfl
    · rw [ft, hn]
      simpa using e
  · rw [hl, List.take_length] at p
    exact hd H p.1 p.2
theorem lcr {lo : Int} {n : Nat} (l : List α) (f : α → Option V) (hl : n = l.length) (sz : l.length ≤ 1000) (hD : H1 D = none)
    (hs : ∀ (i : Nat) (y : α) (H : Hp) (acc : List V) (N : Hp → Prop), i < n → l[i]? = some y → Same H1 H → H D = some (.lst acc) → acc.length < sizeLine → (∀ v, f y = some v → N (upd H D (.lst (acc ++ [v])))) → (f y = none → N H) →
      g (.int (lo + i)) (wipe σ vs) H fun σ2 H2 => wipe σ2 vs = wipe σ vs ∧ tt σ2 H2 fun b H3 => if b = true then te σ2 H3 fun y H4 => ∃ acc, H4 D = some (.lst acc) ∧ acc.length < sizeLine ∧ N (upd H4 D (.lst (acc ++ [y]))) else N H3)
    (hd : ∀ H, Same H1 H → H D = some (.lst (l.filterMap f)) → Qd H) :
    ∃ W : Nat → Nat → Hp → Prop, (∃ m, W 0 m (upd H1 D (.lst []))) ∧ ∀ i m H, W i m H →
      ((Itr lo n).stop i H ∧ Qd H) ∨ ((Itr lo n).go i H ∧ ∃ Nx : Hp → Prop, (∀ H', Nx H' → ∃ m', m' < m ∧ W (i + 1) m' H') ∧ ∀ x H', (Itr lo n).yld i H x H' → g x (wipe σ vs) H' fun σ2 H2 => wipe σ2 vs = wipe σ vs ∧ tt σ2 H2 fun b H3 =>
        if b = true then te σ2 H3 fun y H4 => ∃ acc, H4 D = some (.lst acc) ∧ acc.length < sizeLine ∧ Nx (upd H4 D (.lst (acc ++ [y]))) else Nx H3) := by
  refine lc_range (fun i H => Same H1 H ∧ H D = some (.lst ((l.take i).filterMap f))) ⟨same_of (Same.refl _) hD, upd_same⟩ ?_ fun H p => ?_
  · rintro i H hi ⟨sm, e⟩
    have hy : l[i]? = some (l[i]'(by omega)) := List.getElem?_eq_getElem (by omega)
    have ft := fm_take l f hy
    refine hs i _ H _ _ hi hy sm e (fm_sz l f i sz) (fun v hv => ⟨same_mut sm hD, ?_⟩) fun hn => ⟨sm, ?_⟩
    · rw [upd_same, ft, hv]
      rfl
    · rw [ft, hn]
      simpa using e
  · rw [hl, List.take_length] at p
    exact hd H p.1 p.2
end
end L

namespace L
open PySem PySem.Spec PyProof.Rows L2 Z M MR MT X2
open _root_.SX (S S_len S_cat S_inj)
/-! the law's own rows -/
def RowsH (H : Hp) (us : List V) (rs : List TRow) (hd : List Bool) : Prop := us.length = rs.length ∧ ∀ k r, rs[k]? = some r → ∃ p, us[k]? = some (.ref p) ∧ H p = some (.tup [.int r.1, .int (lev rs k : Int), rV r.2, .bl (hd.getD k false)])
theorem RowsH.nil {H : Hp} : RowsH H [] [] [] := ⟨rfl, fun k r h => by simp at h⟩
/-- tuples stay -/
def TupS (H H' : Hp) : Prop := ∀ b xs, H b = some (.tup xs) → H' b = some (.tup xs)
theorem TupS.ofM {H H' : Hp} (h : Mo H H') : TupS H H' := fun b xs e => h b _ (fun l z => by cases z) e
theorem TupS.of {H H' : Hp} (h : Same H H') : TupS H H' := fun b xs e => h b _ e
theorem TupS.trans {H H1 H2 : Hp} (a : TupS H H1) (b : TupS H1 H2) : TupS H H2 := fun c xs e => b c xs (a c xs e)
theorem RowsH.tup {H H' : Hp} {us : List V} {rs : List TRow} {hd : List Bool} (h : RowsH H us rs hd) (s : TupS H H') : RowsH H' us rs hd := ⟨h.1, fun k r e => by
  obtain ⟨p, h1, h2⟩ := h.2 k r e
  exact ⟨p, h1, s _ _ h2⟩⟩
theorem RowsH.snoc {H : Hp} {us : List V} {rs : List TRow} {hd : List Bool} {p : Addr} {r : TRow} {b : Bool} (h : RowsH H us rs hd) (hl : hd.length = rs.length) (hp : H p = some (.tup [.int r.1, .int (dep (rs ++ [r]) : Int), rV r.2, .bl b])) : RowsH H (us ++ [.ref p]) (rs ++ [r]) (hd ++ [b]) := by
  refine ⟨by rw [List.length_append, List.length_append, h.1]; rfl, fun k x e => ?_⟩
  by_cases hk : k < rs.length
  · rw [List.getElem?_append_left hk] at e
    obtain ⟨a, h1, h2⟩ := h.2 k x e
    refine ⟨a, by rw [List.getElem?_append_left (by rw [h.1]; exact hk)]; exact h1, ?_⟩
    rw [lev_app hk, List.getD_eq_getElem?_getD, List.getElem?_append_left (by rw [hl]; exact hk), ← List.getD_eq_getElem?_getD]
    exact h2
  · have hk2 := (List.getElem?_eq_some_iff.mp e).1
    rw [List.length_append, List.length_singleton] at hk2
    obtain rfl : k = rs.length := by omega
    rw [List.getElem?_append_right (Nat.le_refl _), Nat.sub_self] at e
    obtain rfl := Option.some.inj e
    refine ⟨p, ?_, ?_⟩
    · rw [List.getElem?_append_right (by rw [h.1]; exact Nat.le_refl _), h.1, Nat.sub_self]
      rfl
    · rw [lev_last, List.getD_eq_getElem?_getD, List.getElem?_append_right (by rw [hl]; exact Nat.le_refl _), hl, Nat.sub_self]
      exact hp
theorem lev_take {rs : List TRow} {n k : Nat} (h : k < n) : lev (rs.take n) k = lev rs k := by
  unfold lev
  rw [List.take_take, Nat.min_eq_left (by omega)]
theorem RowsH.take {H : Hp} {us : List V} {rs : List TRow} {hd : List Bool} (h : RowsH H us rs hd) (n : Nat) : RowsH H (us.take n) (rs.take n) (hd.take n) := by
  refine ⟨by rw [List.length_take, List.length_take, h.1], fun k r e => ?_⟩
  rw [List.getElem?_take] at e
  split at e
  · rename_i hk
    obtain ⟨p, h1, h2⟩ := h.2 k r e
    refine ⟨p, by rw [List.getElem?_take, if_pos hk]; exact h1, ?_⟩
    rw [lev_take hk, List.getD_eq_getElem?_getD, List.getElem?_take, if_pos hk, ← List.getD_eq_getElem?_getD]
    exact h2
  · cases e
theorem levs_get {rs : List TRow} {k : Nat} (h : k < rs.length) : (nV (levs rs))[k]? = some (.int (lev rs k : Int)) := by
  unfold nV levs
  rw [List.getElem?_map, List.getElem?_map, List.getElem?_range h]
  rfl
theorem flv_rV (r : Option Int) : FlV (rV r) := by
  cases r with
  | none => exact .inl rfl
  | some i => exact .inr ⟨i, rfl⟩
theorem count_levels (rs : List TRow) (k : Nat) : V.int ((((levs rs).map fun n : Nat => (n : Int)).count (k : Int) : Nat) : Int) = V.int ((ed rs (k + 1) : Int) - (ed rs k : Int)) := by
  have h1 : ((levs rs).map fun n : Nat => (n : Int)).count (k : Int) = (levs rs).count k := by
    induction levs rs with
    | nil => rfl
    | cons y ys ih =>
      rw [List.map_cons, List.count_cons, List.count_cons, ih]
      congr 1
      by_cases e : y = k
      · subst e
        simp
      · have : ¬ (y : Int) = (k : Int) := fun z => e (Int.ofNat.inj z)
        simp [e, this]
  rw [h1, count_lev]
  have := ed_mono rs k
  congr 1
  omega
end L

namespace L
open PySem PySem.Spec PyProof.Rows L2 Z M MR MT X2
/-- the law's seat -/
structure SS where
  x : WS
  Sa : Addr
  An : Addr
  Ac : Addr
  As : Addr
  Af : Addr
  Ar : Addr
  Al : Addr
  us : List V
  cs : List (Addr × List Int)
  so : List Int
  fg : List Bool
  rs : List TRow
  hd : List Bool
  lk : List Int
  pr : Bool
def SS.seven (z : SS) : List Addr := [z.Sa, z.An, z.Ac, z.As, z.Af, z.Ar, z.Al]
def SS.all (z : SS) : List Addr := z.seven ++ z.x.mut
def SS.line (z : SS) : List V := [.ref z.x.tr, .ref z.x.o, .ref z.An, .ref z.Ac, .ref z.As, .ref z.Af, .ref z.Ar, .bl z.pr, .ref z.Al]
def refs (cs : List (Addr × List Int)) : List V := cs.map fun c => V.ref c.1
structure SOk (K : PySem.W.Frag) (CT CW : Addr) (T : Tb) (H : Hp) (z : SS) : Prop where
  ok : WOk K CT CW H z.x
  tab : LamX.Tabs T H
  sa : H z.Sa = some (.lst z.line)
  an : H z.An = some (.lst (z.x.ns.map V.int))
  ac : H z.Ac = some (.lst (refs z.cs))
  ct : ∀ c ∈ z.cs, SqT K H c.1 (c.2.map V.int)
  as : H z.As = some (.lst (z.so.map V.int))
  af : H z.Af = some (.lst (z.fg.map V.bl))
  ar : H z.Ar = some (.lst z.us)
  rv : RowsH H z.us z.rs z.hd
  al : H z.Al = some (.lst (z.lk.map V.int))
  sep : ∀ b ∈ z.seven, b ∉ z.x.mut
  nd : z.seven.Nodup
section
variable {K : PySem.W.Frag} {CT CW : Addr} {T : Tb} {H H' : Hp} {z : SS} {q : Addr}
theorem SOk.lst (h : SOk K CT CW T H z) : ∀ b ∈ z.seven, ∃ xs, H b = some (.lst xs) := fun b hb => by
  simp only [SS.seven, List.mem_cons, List.not_mem_nil, or_false] at hb
  rcases hb with rfl | rfl | rfl | rfl | rfl | rfl | rfl
  · exact ⟨_, h.sa⟩
  · exact ⟨_, h.an⟩
  · exact ⟨_, h.ac⟩
  · exact ⟨_, h.as⟩
  · exact ⟨_, h.af⟩
  · exact ⟨_, h.ar⟩
  · exact ⟨_, h.al⟩
/-- what isn't a list stays, the seat's lists too -/
theorem tabs_lst {a : Addr} {xs : List V} (t : LamX.Tabs T H) (e : H a = some (.lst xs)) (fr : ∀ b u, b ≠ a → H b = some u → H' b = some u) : LamX.Tabs T H' := fun p hp => by
  obtain ⟨ps, h1, h2, h3⟩ := t p hp
  refine ⟨ps, fr _ _ (fun z => by rw [z, e] at h1; cases h1) h1, h2, fun pos cv hc => ?_⟩
  obtain ⟨c, e1, e2⟩ := h3 pos cv hc
  exact ⟨c, e1, fr _ _ (fun z => by rw [z, e] at e2; cases e2) e2⟩
theorem sqT_lst {a : Addr} {xs : List V} (e : H a = some (.lst xs)) (fr : ∀ b u, b ≠ a → H b = some u → H' b = some u) {c : Addr} {ys : List V} (h : SqT K H c ys) : SqT K H' c ys := by
  rcases h with (h | ⟨o, h⟩) | h
  · exact .inl (.inl (fr _ _ (fun z => by rw [z, e] at h; cases h) h))
  · exact .inl (.inr ⟨o, fr _ _ (fun z => by rw [z, e] at h; cases h) h⟩)
  · exact .inr h
theorem rows_lst {a : Addr} {xs : List V} (e : H a = some (.lst xs)) (fr : ∀ b u, b ≠ a → H b = some u → H' b = some u) {us : List V} {rs : List TRow} {hd : List Bool} (h : RowsH H us rs hd) : RowsH H' us rs hd := h.tup fun b ys eb => fr _ _ (fun z => by rw [z, e] at eb; cases eb) eb
theorem WOk.lst {a : Addr} {xs : List V} {y : WS} (ok : WOk K CT CW H y) (e : H a = some (.lst xs)) (n1 : a ∉ y.mut) (fr : ∀ b u, b ≠ a → H b = some u → H' b = some u) : WOk K CT CW H' y := by
  obtain ⟨kn, hk, _⟩ := ok.ta.nd
  refine ⟨ok.ta.at' fun b u hb eb => fr _ _ (fun q => ?_) eb, ok.wa.at' (fun b u hb eb => fr _ _ (fun q => n1 (by rw [← q]; exact List.mem_append_right _ hb)) eb) fun c ys q => sqT_lst e fr q, ok.sep⟩
  rcases List.mem_cons.mp hb with hb | hb
  · rw [← q, hb, hk] at e
    cases e
  · exact n1 (by rw [← q]; exact List.mem_append_left _ hb)
theorem pool_lst (h : PoolAt H q) : ∃ xs, H q = some (.lst xs) := by
  obtain ⟨o, e, c, k, b, s, rfl⟩ := h
  exact ⟨_, e⟩
theorem SOk.px (h : SOk K CT CW T H z) (hp : PoolAt H q) (hq : q ∉ z.all) (p : PX q H H') : SOk K CT CW T H' z := by
  obtain ⟨xs, e⟩ := pool_lst hp
  have n : ∀ b ∈ z.seven, b ≠ q := fun b hb c => hq (by rw [← c]; exact List.mem_append_left _ hb)
  have s := fun b (hb : b ∈ z.seven) u eb => p.sx b u (n b hb) eb
  exact ⟨h.ok.lst e (fun c => hq (List.mem_append_right _ c)) p.sx, tabs_lst h.tab e p.sx, s _ (by simp [SS.seven]) _ h.sa, s _ (by simp [SS.seven]) _ h.an, s _ (by simp [SS.seven]) _ h.ac, fun c hc => sqT_lst e p.sx (h.ct c hc), s _ (by simp [SS.seven]) _ h.as, s _ (by simp [SS.seven]) _ h.af, s _ (by simp [SS.seven]) _ h.ar, rows_lst e p.sx h.rv, s _ (by simp [SS.seven]) _ h.al, h.sep, h.nd⟩
theorem SOk.same (h : SOk K CT CW T H z) (s : Same H H') : SOk K CT CW T H' z :=
  ⟨h.ok.same s, h.tab.ext s, s _ _ h.sa, s _ _ h.an, s _ _ h.ac, fun c hc => Evl.ex_t s (h.ct c hc), s _ _ h.as, s _ _ h.af, s _ _ h.ar, h.rv.tup (TupS.of s), s _ _ h.al, h.sep, h.nd⟩
/-- the program does a deed -/
theorem SOk.prog {x' : WS} (h : SOk K CT CW T H z) (d : DX T z.x.mut x'.mut H H') (ok : WOk K CT CW H' x') (e1 : x'.tr = z.x.tr) (e2 : x'.o = z.x.o) (e3 : x'.ns = z.x.ns) : SOk K CT CW T H' { z with x := x' } := by
  have s := fun b (hb : b ∈ z.seven) xs (eb : H b = some (.lst xs)) => d.kp b _ (h.sep b hb) (by simp) eb
  refine ⟨ok, d.tb h.tab, ?_, ?_, s _ (by simp [SS.seven]) _ h.ac, fun c hc => sqT_dx d h.ok.mu (h.ct c hc), s _ (by simp [SS.seven]) _ h.as, s _ (by simp [SS.seven]) _ h.af, s _ (by simp [SS.seven]) _ h.ar, h.rv.tup fun b ys eb => d.kp _ _ (fun m => ?_) (by simp) eb, s _ (by simp [SS.seven]) _ h.al, fun b hb m => ?_, h.nd⟩
  · have := s _ (by simp [SS.seven]) _ h.sa
    show H' z.Sa = some (.lst [.ref x'.tr, .ref x'.o, .ref z.An, .ref z.Ac, .ref z.As, .ref z.Af, .ref z.Ar, .bl z.pr, .ref z.Al])
    rw [e1, e2]
    exact this
  · show H' z.An = some (.lst (x'.ns.map V.int))
    rw [e3]
    exact s _ (by simp [SS.seven]) _ h.an
  · obtain ⟨u, eu, mu⟩ := h.ok.mu b m
    rw [eb] at eu
    rw [← Option.some.inj eu] at mu
    exact mu
  · obtain ⟨xs, eb⟩ := h.lst b hb
    rcases d.nw b m with c | c
    · exact h.sep b hb c
    · obtain ⟨ps, hps⟩ := c _ eb
      cases hps
theorem DX.pre {S S' : List Addr} (A : List Addr) (d : DX T S S' H H') : DX T (A ++ S) (A ++ S') H H' := by
  refine ⟨fun b x n nt e => d.kp b x (fun z => n (List.mem_append_right _ z)) nt e, fun b hb => ?_, d.tb⟩
  rcases List.mem_append.mp hb with hb | hb
  · exact .inl (List.mem_append_left _ hb)
  · exact (d.nw b hb).imp (List.mem_append_right _) id
/-- what a deed at the seat leaves -/
structure Go (K : PySem.W.Frag) (CT CW : Addr) (T : Tb) (H H' : Hp) (z z' : SS) : Prop where
  dx : DX T z.all z'.all H H'
  so : SOk K CT CW T H' z'
  sa : z'.Sa = z.Sa
theorem Go.refl (h : SOk K CT CW T H z) : Go K CT CW T H H z z := ⟨.refl _ _, h, rfl⟩
theorem Go.trans {H1 : Hp} {z1 z2 : SS} (a : Go K CT CW T H H1 z z1) (b : Go K CT CW T H1 H' z1 z2) : Go K CT CW T H H' z z2 := ⟨a.dx.trans b.dx, b.so, b.sa.trans a.sa⟩
theorem Go.same {H1 : Hp} {z1 : SS} (a : Go K CT CW T H H1 z z1) (s : Same H1 H') : Go K CT CW T H H' z z1 := ⟨a.dx.same s, a.so.same s, a.sa⟩
theorem Go.prog {x' : WS} (h : SOk K CT CW T H z) (d : DX T z.x.mut x'.mut H H') (ok : WOk K CT CW H' x') (e1 : x'.tr = z.x.tr) (e2 : x'.o = z.x.o) (e3 : x'.ns = z.x.ns) : Go K CT CW T H H' z { z with x := x' } := ⟨d.pre z.seven, h.prog d ok e1 e2 e3, rfl⟩
/-- with a pool beside it -/
structure Gq (K : PySem.W.Frag) (CT CW : Addr) (T : Tb) (q : Addr) (H H' : Hp) (z z' : SS) : Prop where
  dx : DX T (q :: z.all) (q :: z'.all) H H'
  so : SOk K CT CW T H' z'
  sa : z'.Sa = z.Sa
  pl : PoolAt H' q
  qn : q ∉ z'.all
theorem Gq.refl (h : SOk K CT CW T H z) (hp : PoolAt H q) (hq : q ∉ z.all) : Gq K CT CW T q H H z z := ⟨.refl _ _, h, rfl, hp, hq⟩
theorem Gq.trans {H1 : Hp} {z1 z2 : SS} (a : Gq K CT CW T q H H1 z z1) (b : Gq K CT CW T q H1 H' z1 z2) : Gq K CT CW T q H H' z z2 := ⟨a.dx.trans b.dx, b.so, b.sa.trans a.sa, b.pl, b.qn⟩
theorem Gq.same {H1 : Hp} {z1 : SS} (a : Gq K CT CW T q H H1 z z1) (s : Same H1 H') : Gq K CT CW T q H H' z z1 := ⟨a.dx.same s, a.so.same s, a.sa, a.pl.same s, a.qn⟩
theorem Gq.px {H1 : Hp} {z1 : SS} (a : Gq K CT CW T q H H1 z z1) (p : PX q H1 H') : Gq K CT CW T q H H' z z1 := by
  obtain ⟨xs, e⟩ := pool_lst a.pl
  refine ⟨a.dx.trans ⟨fun b u n nt eb => p.sx b u (fun c => n (by rw [c]; exact List.mem_cons_self)) eb, fun b hb => .inl hb, fun t => tabs_lst t e p.sx⟩, a.so.px a.pl a.qn p, a.sa, p.pl, a.qn⟩
theorem Gq.go {H1 : Hp} {z1 z2 : SS} (a : Gq K CT CW T q H H1 z z1) (b : Go K CT CW T H1 H' z1 z2) : Gq K CT CW T q H H' z z2 := by
  obtain ⟨o, e, hp⟩ := a.pl
  have nt : ∀ ps, o ≠ .tbl ps := fun ps c => by
    obtain ⟨c0, k, b, s, rfl⟩ := hp
    cases c
  refine ⟨a.dx.trans (b.dx.cons q), b.so, b.sa.trans a.sa, ⟨o, b.dx.kp _ _ a.qn nt e, hp⟩, fun m => ?_⟩
  rcases b.dx.nw q m with c | c
  · exact a.qn c
  · obtain ⟨ps, h⟩ := c _ e
    exact nt ps h
end
end L

namespace L
open PySem PySem.Spec PyProof.Rows L2 Z M MR
/-- each forced row: its reason has it, the others were false before -/
def RInv (cs : List (List Int)) (fg : List Bool) (rs : List TRow) : Prop := ∀ (i : Nat) (l n : Int), rs[i]? = some (l, some n) → ∃ (m : Nat) (c : List Int), n = (m : Int) ∧ cs[m]? = some c ∧ fg.getD m false = false ∧ l ∈ c ∧ ∀ y ∈ c, y ≠ l → -y ∈ lits (rs.take i)
theorem RInv.grow {cs : List (List Int)} {fg : List Bool} {rs rs1 : List TRow} (h : RInv cs fg rs) (g : Grow cs fg rs rs1) : RInv cs fg rs1 := by
  induction g with
  | refl => exact h
  | @step rs1 r _ hr ih =>
    intro i l n e
    by_cases hi : i < rs1.length
    · rw [List.getElem?_append_left hi] at e
      obtain ⟨m, c, e1, e2, e3, e4, e5⟩ := ih i l n e
      exact ⟨m, c, e1, e2, e3, e4, fun y hy ne => by rw [List.take_append_of_le_length (by omega)]; exact e5 y hy ne⟩
    · have h2 := (List.getElem?_eq_some_iff.mp e).1
      rw [List.length_append, List.length_singleton] at h2
      obtain rfl : i = rs1.length := by omega
      rw [List.getElem?_append_right (Nat.le_refl _), Nat.sub_self] at e
      obtain rfl : r = (l, some n) := Option.some.inj e
      obtain ⟨m, c, e1, e2, e3, e4, _, _, e5⟩ := hr
      refine ⟨m, c, Option.some.inj e1, e2, e3, e4, fun y hy ne => ?_⟩
      rw [List.take_append_of_le_length (Nat.le_refl _), List.take_of_length_le (Nat.le_refl _)]
      exact e5 y hy ne
theorem RInv.take {cs : List (List Int)} {fg : List Bool} {rs : List TRow} (h : RInv cs fg rs) (n : Nat) : RInv cs fg (rs.take n) := by
  intro i l k e
  rw [List.getElem?_take] at e
  split at e
  · rename_i hi
    obtain ⟨m, c, e1, e2, e3, e4, e5⟩ := h i l k e
    exact ⟨m, c, e1, e2, e3, e4, fun y hy ne => by rw [List.take_take, Nat.min_eq_left (by omega)]; exact e5 y hy ne⟩
  · cases e
theorem RInv.choose {cs : List (List Int)} {fg : List Bool} {rs : List TRow} (h : RInv cs fg rs) (l0 : Int) : RInv cs fg (rs ++ [(l0, none)]) := by
  intro i l k e
  by_cases hi : i < rs.length
  · rw [List.getElem?_append_left hi] at e
    obtain ⟨m, c, e1, e2, e3, e4, e5⟩ := h i l k e
    exact ⟨m, c, e1, e2, e3, e4, fun y hy ne => by rw [List.take_append_of_le_length (by omega)]; exact e5 y hy ne⟩
  · have h2 := (List.getElem?_eq_some_iff.mp e).1
    rw [List.length_append, List.length_singleton] at h2
    obtain rfl : i = rs.length := by omega
    rw [List.getElem?_append_right (Nat.le_refl _), Nat.sub_self] at e
    cases e
theorem RInv.put {cs : List (List Int)} {fg : List Bool} {rs : List TRow} (h : RInv cs fg rs) (c0 : List Int) : RInv (cs ++ [c0]) (fg ++ [false]) rs := by
  intro i l k e
  obtain ⟨m, c, e1, e2, e3, e4, e5⟩ := h i l k e
  exact ⟨m, c, e1, by rw [List.getElem?_append_left (List.getElem?_eq_some_iff.mp e2).1]; exact e2, by rw [WA.getD_snoc]; exact e3, e4, e5⟩
theorem getD_set {fg : List Bool} {n m : Nat} (hn : n < fg.length) : (fg.set n true).getD m false = if m = n then true else fg.getD m false := by
  rw [List.getD_eq_getElem?_getD, List.getD_eq_getElem?_getD]
  by_cases e : m = n
  · rw [if_pos e, e, List.getElem?_set_self hn]
    rfl
  · rw [if_neg e, List.getElem?_set_ne (Ne.symm e)]
theorem RInv.forget {cs : List (List Int)} {fg : List Bool} {rs : List TRow} (h : RInv cs fg rs) {n : Nat} (hn : n < fg.length) (hr : ∀ r ∈ rs, r.2 ≠ some (n : Int)) : RInv cs (fg.set n true) rs := by
  intro i l k e
  obtain ⟨m, c, e1, e2, e3, e4, e5⟩ := h i l k e
  refine ⟨m, c, e1, e2, ?_, e4, e5⟩
  rw [getD_set hn, if_neg (fun z => hr _ (List.mem_of_getElem? e) (by rw [e1, z]))]
  exact e3
theorem cnt_take {tk : List Nat} (hp : tk.Pairwise (· < ·)) (e n : Nat) : (tk.take e).countP (fun a => decide (a < n)) = min (tk.countP fun a => decide (a < n)) e := by
  induction tk generalizing e with
  | nil => simp
  | cons b tk ih =>
    rw [List.pairwise_cons] at hp
    cases e with
    | zero => simp
    | succ e =>
      rw [List.take_succ_cons, List.countP_cons, List.countP_cons, ih hp.2]
      by_cases hb : b < n
      · simp [hb]
      · have z : tk.countP (fun a => decide (a < n)) = 0 := by
          rw [List.countP_eq_zero]
          intro x hx
          have := hp.1 x hx
          simp
          omega
        rw [z]
        simp [hb]
def WS.bck (x : WS) (e : Nat) : WS := { x with t := x.t.cut e, rs := x.rs.take e }
theorem WInv.bck {x : WS} {k : Nat} (h : WInv x k) (hp : x.t.tk.Pairwise (· < ·)) (L : Nat) : WInv (x.bck (ed x.rs (L + 1))) (min k (ed x.rs (L + 1))) := by
  have hm := fun (i : Nat) (p : Int × Nat) (e : (tl x.rs)[i]? = some p) => tl_back x.rs L i p e
  have et : tl (x.rs.take (ed x.rs (L + 1))) = (tl x.rs).take (ed x.rs (L + 1)) := tl_take _ _
  have edp : dep (x.rs.take (ed x.rs (L + 1))) = min (dep x.rs) L := dep_take_min _ _
  refine ⟨?_, h.sle, ?_, fun l hl => h.lit l ?_, h.cl, h.nsb, h.nsl, ⟨h.ci.wl, fun n c w hc hw hf => ?_, h.ci.cnt⟩, h.li, h.frl, h.fln, h.cln, h.frn, h.son, h.key⟩
  · have := h.vis
    show (x.t.tk.take _).countP _ = _
    rw [cnt_take hp]
    exact congrArg (fun a => min a _) this
  · show WA.TI (tl (x.rs.take _)) (dep (x.rs.take _)) _
    rw [et, edp]
    exact h.ti.back hm
  · have hl : l ∈ lits (x.rs.take (ed x.rs (L + 1))) := hl
    unfold lits at hl ⊢
    rw [List.map_take] at hl
    exact List.mem_of_mem_take hl
  · show WA.One (tl (x.rs.take _)) (dep (x.rs.take _)) _ _ _ _
    rw [et, edp]
    exact (h.ci.one n c w hc hw hf).back hm
theorem One.dn {t : WA.Tr} {d d' k : Nat} {c w : List Int} (h : WA.One t d k c false w) : WA.One t d' k c false w := by
  unfold WA.One at h ⊢
  exact h
def WS.chs (x : WS) (l : Int) : WS := { x with t := x.t.push, rs := x.rs ++ [(l, none)] }
theorem WInv.chs {x : WS} (h : WInv x x.rs.length) (fr : x.D.fr = []) {l : Int} (hl : (l.natAbs : Int) ∈ x.ns) (h1 : l ∉ lits x.rs) (h2 : -l ∉ lits x.rs) : WInv (x.chs l) x.rs.length := by
  have et : tl (x.rs ++ [(l, none)]) = tl x.rs ++ [(l, dep x.rs + 1)] := by rw [tl_snoc, dep_choose]
  refine ⟨?_, Nat.le_succ_of_le h.sle, ?_, fun y hy => ?_, h.cl, h.nsb, h.nsl, ⟨h.ci.wl, fun n c w hc hw hf => ?_, h.ci.cnt⟩, h.li, h.frl, h.fln, h.cln, h.frn, h.son, h.key⟩
  · show (x.t.tk ++ [x.t.nx]).countP (fun a => decide (a < x.D.sn)) = _
    rw [List.countP_append, show [x.t.nx].countP (fun a => decide (a < x.D.sn)) = 0 by
      rw [List.countP_singleton, if_neg]
      simpa using h.sle, Nat.add_zero]
    exact h.vis
  · show WA.TI (tl (x.rs ++ [(l, none)])) (dep (x.rs ++ [(l, none)])) _
    rw [et, dep_choose]
    have ti := h.ti
    rw [← tl_len x.rs] at ti ⊢
    exact ti.choose (by rw [tl_lits]; exact h1) (by rw [tl_lits]; exact h2)
  · have hy : y ∈ lits (x.rs ++ [(l, none)]) := hy
    rw [lits_snoc] at hy
    rcases List.mem_append.mp hy with hy | hy
    · exact h.lit y hy
    · rw [List.mem_singleton.mp hy]
      exact hl
  · have o := h.ci.one n c w hc hw hf
    show WA.One (tl (x.rs ++ [(l, none)])) (dep (x.rs ++ [(l, none)])) _ _ (decide (n ∈ x.D.fr)) _
    rw [et]
    rw [fr] at o ⊢
    rw [show decide (n ∈ ([] : List Nat)) = false by simp] at o ⊢
    exact One.dn (o.grow (by rw [tl_len]; exact Nat.le_refl _))
theorem WInv.fgt {x : WS} {k n : Nat} (h : WInv x k) (hn : n < x.D.fg.length) : WInv { x with D := { x.D with fg := x.D.fg.set n true } } k := by
  have g : ∀ m, (x.D.fg.set n true).getD m false = false → x.D.fg.getD m false = false := fun m e => by
    rw [getD_set hn] at e
    split at e
    · cases e
    · exact e
  refine ⟨h.vis, h.sle, h.ti, h.lit, h.cl, h.nsb, h.nsl, ⟨h.ci.wl, fun m c w hc hw hf => h.ci.one m c w hc hw (g m hf), fun l m hm => h.ci.cnt l m (g m hm)⟩, h.li, h.frl, ?_, h.cln, h.frn, h.son, h.key⟩
  show (x.D.fg.set n true).length = _
  rw [List.length_set]
  exact h.fln
end L

namespace L
open PySem PySem.Spec PyProof.Rows L2 Z M MR MT X2
open _root_.SX (S S_len S_cat S_inj)
section
variable {P : Program} {w : World} {K : PySem.W.Frag} {mg : Str → Option Value} {base : Heap}
def Wd (c w : List Int) : Prop := (2 ≤ c.length ∧ ∃ a b, w = [a, b] ∧ a ≠ b ∧ a ∈ c ∧ b ∈ c) ∨ (c.length < 2 ∧ w = c)
theorem wd_of {t : WA.Tr} {d k : Nat} {c w : List Int} {f : Bool} (h : WA.One t d k c f w) : Wd c w := by
  by_cases h2 : 2 ≤ c.length
  · exact .inl ⟨h2, h.pair h2⟩
  · unfold WA.One at h
    rw [if_neg h2] at h
    exact .inr ⟨by omega, h.1⟩
theorem w_isi_sqT {a : Addr} {xs : List V} {H : Hp} {Q : VK} (h : SqT K H a xs) (q : Q (.bl true) H) : rIsi K [.ref a, .ty "tuple"] H Q := by
  rcases h with (h | ⟨o, h⟩) | ⟨o, its, n, h, hc, _⟩
  · exact Z.w_isi (.ty _) (.base (.tup h)) (kit_ty (by decide +kernel)) q
  · exact Z.w_isi (.ty _) (.fTuple h) (kit_ty (by decide +kernel)) q
  · exact Z.w_isi (.ty _) (.kTuple h hc) (kit_ty (by decide +kernel)) q
theorem w_inI {p : Addr} {x : Int} {ls : List Int} {H : Hp} {Q : VK} {neg : Bool} (h : SqL K H p (ls.map V.int) ∨ SqT K H p (ls.map V.int)) (q : Q (.bl (if neg then !decide (x ∈ ls) else decide (x ∈ ls))) H) : rIn K neg (.int x) (.ref p) H Q := w_opin h rfl (flat_ints ls) (by rw [inV_int]; exact q)
def spWd (K : PySem.W.Frag) (CT CW : Addr) (T : Tb) : Sp := fun vs H Q _ => ∃ (z : SS) (n : Nat) (c w : List Int), vs = [.ref z.Sa, .int (n : Int)] ∧ SOk K CT CW T H z ∧ (z.cs.map (·.2))[n]? = some c ∧ z.x.D.wp[n]? = some w ∧ Wd c w ∧ ∀ H', Same H H' → Q (.bl true) H'
theorem ok_Lwatched (T : Txt K mg) {Tt : Tb} : FnOk P w K mg base CX0 2 T.f_watched T.fd_watched ["_law_seat_here", "_law_number"] (spWd K T.C_Trail T.C_Watching Tt) := by
  have G_Watching_watched := ok_watched (P := P) (w := w) (base := base) T
  have G_whole := ok_whole (P := P) (w := w) (base := base) T
  refine T.F_watched.ok sc_watched (fun vs H Q E h => ?_) (fun cdv A outer s H vs Q E hr h => ?_)
  · obtain ⟨z, n, c, w, rfl, _⟩ := h
    rfl
  · obtain ⟨z, n, c, ws, rfl, so, hc, hw, hwd, h⟩ := h
    have hsa := so.sa
    have hac := so.ac
    obtain ⟨ca, hca, hcS⟩ : ∃ a, atI (refs z.cs) (n : Int) = some (.ref a) ∧ SqT K H a (c.map V.int) := by
      rw [List.getElem?_map] at hc
      obtain ⟨p, hp, rfl⟩ := Option.map_eq_some_iff.mp hc
      exact ⟨p.1, atI_nat (by unfold refs; rw [List.getElem?_map, hp]; rfl), so.ct p (List.mem_of_getElem? hp)⟩
    have hs1 : atI z.line 1 = some (.ref z.x.o) := rfl
    have hs3 : atI z.line 3 = some (.ref z.Ac) := rfl
    refine ⟨_, (pss_cons (ps_set (i := 2) sc_watched.nd rfl (.inl rfl) (pe_meth (pe_ix ix_list (pv 0) pe_int (fun _ _ => rfl)) T.cl_Watching T.M_Watching_watched G_Watching_watched (hr.mono (by first | decide | omega)) T.b_Watching_watched .nil pass0 (pa_cons (pv 1) pa_nil)))
 (pss_cons (ps_set (i := 3) sc_watched.nd rfl (.inr rfl) (pe_ix ix_list (pe_ix ix_list (pv 0) pe_int (fun _ _ => rfl)) (pv 1) (fun _ _ => rfl)))
 (pss_cons (ps_if (PW.pt (pw_or (pt_not (pt_val (pe_callB call_isi (by rfl) T.m_isinstance (by decide +kernel) (pa_cons (pv 2) (pa_cons (pe_bltn (v := .ty "tuple") (by rfl) T.m_tuple (by decide +kernel) rfl) pa_nil))))) (pw_or1 (pt_cmpR op_ne (pe_callB call_len_seq (by rfl) T.m_len (by decide +kernel) (pa_cons (pv 2) pa_nil)) (pe_callB (call_min2 rfl) (by rfl) T.m_min (by decide +kernel) (pa_cons pe_int (pa_cons (pe_callB call_len_seq (by rfl) T.m_len (by decide +kernel) (pa_cons (pv 3) pa_nil)) pa_nil))) (nomark _))))) (pss_one (ps_ret pe_bl)) pss_nil)
 (pss_cons (ps_if (pt_cmpR op_gt (pe_callB call_len_seq (by rfl) T.m_len (by decide +kernel) (pa_cons (pe_lc (own := [("_law_literal", 4)]) (g := gName 4) (by rfl) sc_watched.nd (pi_tup (pv 2)) (blkOk_by (own := [("_law_literal", 4)]) (N := N_watched) (sc := defScope s_watched) (by decide +kernel)) (fun _ _ _ _ _ => pg_name (i := 4) sc_watched.nd rfl (Or.inl rfl)) (fun _ _ _ _ _ => pts_one (PW.pt (pw_or (pt_not (pt_val (pe_call G_whole (hr.mono (by first | decide | omega)) (by rfl) T.g_whole T.F_whole.kp T.b_whole .nil pass0 (pa_cons (pv 4) pa_nil)))) (pw_or1 (pt_cmpR (show OpR _ _ (rIn K true) from op_notIn_seq) (pv 4) (pv 3) rfl))))) (fun _ _ _ _ _ => (pv 4))) pa_nil)) pe_int (nomark _)) (pss_one (ps_ret pe_bl)) pss_nil)
 (pss_one (ps_ret (pe_or (pe_cmpR op_lt (pe_callB call_len_seq (by rfl) T.m_len (by decide +kernel) (pa_cons (pv 2) pa_nil)) pe_int (nomark _)) (pe_one (pe_cmpR op_ne (pe_ix ix_tup (pv 2) pe_int (fun _ _ => rfl)) (pe_ix ix_tup (pv 2) pe_int (fun _ _ => rfl)) (nomark _)))))))))), ?_⟩
    refine Z.w_start (σ' := [some (.ref z.Sa), some (.int (n:Int)), none, none, none]) rfl ?_
    walk_at "w"
    refine w_methF ?_
    walk_at "w"
    refine ⟨_, _, _, rfl, so.ok.wa.obj, by rfl, ?_⟩
    walk_at "w"
    refine ⟨z.x, n, ws, rfl, so.ok, hw, fun a ha => ?_⟩
    walk_at "w"
    refine w_isi_sqT ha ?_
    walk_at "w"
    rw [if_neg (by rcases hwd with ⟨h2, a', b', rfl, _⟩ | ⟨h2, rfl⟩ <;> simp <;> omega)]
    walk_at "w"
    intro D hD
    have sub : ∀ l ∈ ws, l ∈ c := by
      rcases hwd with ⟨_, a', b', rfl, _, h3, h4⟩ | ⟨_, rfl⟩
      · simpa using ⟨h3, h4⟩
      · exact fun l hl => hl
    have wl : ws.length ≤ 2 := by
      rcases hwd with ⟨_, a', b', rfl, _⟩ | ⟨h2, rfl⟩
      · simp
      · omega
    refine lct (K := K) ws (fun _ => none) (List.length_map _) (by omega) hD ha ?_ ?_
    · rintro i v l H' acc N hx hl sm eD sz k1 k2
      rw [List.getElem?_map, hl] at hx
      obtain rfl := Option.some.inj hx
      have hcS' := Evl.ex_t sm hcS
      have hin := sub l (List.mem_of_getElem? hl)
      refine Z.w_gname (σ' := [some (.ref z.Sa), some (.int (n : Int)), some (.ref a), some (.ref ca), some (.int l)]) rfl ⟨rfl, ?_⟩
      walk_at "w"
      refine w_inI (.inr hcS') ?_
      rw [if_pos rfl, decide_eq_true hin]
      exact ⟨false, rfl, by rw [if_neg (by decide)]; exact k2 rfl⟩
    · intro H' sm eD
      have ha' := Evl.ex_t sm ha
      have e0 : List.filterMap (fun (_ : Int) => (none : Option V)) ws = [] := by simp
      rw [e0] at eD
      rcases hwd with ⟨h2, a', b', rfl, hne, _⟩ | ⟨h2, rfl⟩
      · have ha' : SqT K H' a [.int a', .int b'] := ha'
        walk_at "w"
        rw [decide_eq_false (fun z => hne (V.int.inj z))]
        exact h _ sm
      · walk_at "w"
        exact h _ sm
theorem max_dep {rs : List TRow} {m : Int} (hm : m ∈ (levs rs).map (fun n : Nat => (n : Int)) ++ [0]) (hmax : ∀ y ∈ (levs rs).map (fun n : Nat => (n : Int)) ++ [0], y ≤ m) : m = (dep rs : Int) := by
  have h1 : m ≤ dep rs := by
    rcases List.mem_append.mp hm with h | h
    · obtain ⟨n, hn, rfl⟩ := List.mem_map.mp h
      obtain ⟨i, hi⟩ := List.mem_iff_getElem?.mp hn
      obtain ⟨h1, h2⟩ := levs_at hi
      have := dep_take_le rs (i + 1)
      unfold lev at h2
      omega
    · rw [List.mem_singleton.mp h]
      omega
  have h2 : (dep rs : Int) ≤ m := by
    by_cases hr : rs = []
    · subst hr
      exact hmax 0 (by simp)
    · have hl := List.length_pos_iff.mpr hr
      have e : (levs rs)[rs.length - 1]? = some (lev rs (rs.length - 1)) := by
        unfold levs
        rw [List.getElem?_map, List.getElem?_range (by omega)]
        rfl
      have e2 : lev rs (rs.length - 1) = dep rs := by
        unfold lev
        rw [show rs.length - 1 + 1 = rs.length by omega, List.take_length]
      rw [e2] at e
      exact hmax _ (List.mem_append_left _ (List.mem_map.mpr ⟨_, List.mem_of_getElem? e, rfl⟩))
  omega
def spLDepth (K : PySem.W.Frag) (CT CW : Addr) (T : Tb) : Sp := fun vs H Q _ => ∃ (z : SS), vs = [.ref z.Sa] ∧ SOk K CT CW T H z ∧ z.rs.length ≤ 100 ∧ ∀ H', Same H H' → Q (.int (dep z.rs : Int)) H'
theorem ok_Ldepth (T : Txt K mg) {Tt : Tb} : FnOk P w K mg base CX0 1 T.f_depth T.fd_depth ["_law_seat_here"] (spLDepth K T.C_Trail T.C_Watching Tt) := by
  refine T.F_depth.ok sc_depth (fun vs H Q E h => ?_) (fun cdv A outer s H vs Q E hr h => ?_)
  · obtain ⟨z, rfl, _⟩ := h
    rfl
  · obtain ⟨z, rfl, so, hl, h⟩ := h
    have hsa := so.sa
    have har := so.ar
    have hs6 : atI z.line 6 = some (.ref z.Ar) := rfl
    refine ⟨_, (pss_one (ps_ret (pe_callB (cr_max rfl) (by rfl) T.m_max (by decide +kernel) (pa_cons (pe_op op_cat (pe_lc (own := [("_law_row", 1)]) (g := gName 1) (tt := tYes) (by rfl) sc_depth.nd (pi_list (pe_ix ix_list (pv 0) pe_int (fun _ _ => rfl))) (blkOk_by (own := [("_law_row", 1)]) (N := N_depth) (sc := defScope s_depth) (by decide +kernel)) (fun _ _ _ _ _ => pg_name (i := 1) sc_depth.nd rfl (Or.inl rfl)) (fun _ _ _ _ _ => pts_nil) (fun _ _ _ _ _ => (pe_ix (show IxR _ (rIxT K) from ix_tup) (pv 1) pe_int (fun _ _ => rfl)))) (pe_lst (pa_cons pe_int pa_nil))) pa_nil)))), ?_⟩
    refine Z.w_start (σ' := [some (.ref z.Sa), none]) rfl ?_
    walk_at "w"
    intro D hD
    refine lcl (K := K) (levs z.rs) (fun n => some (V.int (n : Int))) (by rw [levs_len]; exact so.rv.1) (by rw [levs_len]; omega) hD (.inl (.inl har)) ?_ ?_
    · rintro i x y H' acc N hx hy sm eD sz k1 k2
      have hi : i < z.rs.length := by
        have := (List.getElem?_eq_some_iff.mp hy).1
        rwa [levs_len] at this
      obtain ⟨p, e1, e2⟩ := so.rv.2 i _ (List.getElem?_eq_getElem hi)
      rw [hx] at e1
      obtain rfl := Option.some.inj e1
      have ht := sm _ _ e2
      refine Z.w_gname (σ' := [some (.ref z.Sa), some (.ref p)]) rfl ⟨rfl, ?_⟩
      walk_at "w"
      have ey := (levs_at hy).2
      rw [← ey]
      exact ⟨acc, eD, sz, k1 _ rfl⟩
    · intro H' sm eD
      walk_at "w"
      rename_i q hq
      refine w_cat (upd_of hq eD) upd_same ?_ fun p hp => ?_
      · have := List.length_filterMap_le (fun n : Nat => some (V.int (n : Int))) (levs z.rs)
        rw [levs_len] at this
        show _ + 1 ≤ 1000
        omega
      have e : (levs z.rs).filterMap (fun n : Nat => some (V.int (n : Int))) ++ [V.int 0] = ((levs z.rs).map (fun n : Nat => (n : Int)) ++ [0]).map V.int := by
        rw [List.map_append, List.map_map]
        congr 1
        simp [List.filterMap_eq_map']
      walk_at "w"
      refine ⟨p, _, rfl, .inl (.inl (by rw [upd_same, e])), by simp, fun m hm hmax => ?_⟩
      have em : m = (dep z.rs : Int) := max_dep hm hmax
      rw [em]
      exact h _ (same_of (same_of sm hq) hp)
end
end L

namespace L
open PySem PySem.Spec PyProof.Rows L2 Z M MR MT X2
open _root_.SX (S S_len S_cat S_inj)
section
variable {P : Program} {w : World} {K : PySem.W.Frag} {mg : Str → Option Value} {base : Heap}
theorem atP_some {f : List TRow → List V} {rs : List TRow} {i : Int} {k : Nat} {v : V} (h : plc rs i = some k) (hv : (f rs)[k]? = some v) : atP f rs i = v := by
  unfold atP
  rw [h]
  show (f rs).getD k .non = v
  rw [List.getD_eq_getElem?_getD, hv]
  rfl
theorem NoTwin.lits {rs : List TRow} (h : NoTwin rs) : (lits rs).Nodup := by
  unfold NoTwin at h
  unfold L.lits
  rw [List.nodup_iff_pairwise_ne, List.pairwise_map] at h ⊢
  exact h.imp fun a b => a (by rw [b])
theorem plc_at {rs : List TRow} (nd : (lits rs).Nodup) {k : Nat} {r : TRow} (h : rs[k]? = some r) : plc rs r.1 = some k := by
  have hl : (lits rs)[k]? = some r.1 := by
    unfold lits
    rw [List.getElem?_map, h]
    rfl
  obtain ⟨j, e1, e2⟩ := plc_in (List.mem_of_getElem? hl)
  rw [e2]
  obtain ⟨hj, ej, _⟩ := List.idxOf?_eq_some_iff.mp e1
  have := (List.getElem?_inj (List.getElem?_eq_some_iff.mp hl).1 nd).mp (hl.trans (List.getElem?_eq_some_iff.mpr ⟨hj, ej⟩).symm)
  rw [this]
theorem ok_depth (T : Txt K mg) : FnOk P w K mg base CX0 1 T.f_Trail_depth T.fd_Trail_depth ["self"] (spDepth T.C_Trail) := by
  refine T.F_Trail_depth.ok sc_Trail_depth (fun vs H Q E h => ?_) (fun cdv A outer s H vs Q E hr h => ?_)
  · obtain ⟨o, t, ns, rs, rfl, _⟩ := h
    rfl
  · obtain ⟨o, t, ns, rs, rfl, ht, h⟩ := h
    have ob := ht.obj
    have hst := ht.st
    refine ⟨_, (pss_one (ps_ret (pe_callB call_len_seq (by rfl) T.m_len (by decide +kernel) (pa_cons (pe_fld (pv 0) rfl) pa_nil)))), ?_⟩
    refine Z.w_start (σ' := [some (.ref o)]) rfl ?_
    walk_at "w"
    refine w_fldT T.cl_Trail T.n_Trail__starts ob rfl ?_
    walk_at "w"
    rw [nV_len, starts_len]
    exact h
def spStands (K : PySem.W.Frag) (CT CW : Addr) (T : Tb) : Sp := fun vs H Q _ => ∃ (z : SS), vs = [.ref z.Sa] ∧ SOk K CT CW T H z ∧ z.rs = z.x.rs ∧ z.rs.length ≤ 50 ∧ NoTwin z.rs ∧ (∀ l ∈ lits z.rs, (l.natAbs : Int) ∈ z.x.ns ∧ l.natAbs < 10 ^ 60 ∧ l ≠ 0) ∧ (∀ n ∈ z.x.ns, 0 < n ∧ n < 10 ^ 9) ∧ z.x.ns.length ≤ 50 ∧ ∀ H', Same H H' → Q (.bl true) H'
theorem ok_stands (T : Txt K mg) {Tt : Tb} : FnOk P w K mg base CX0 8 T.f_stands T.fd_stands ["_law_seat_here"] (spStands K T.C_Trail T.C_Watching Tt) := by
  have G_depth := ok_Ldepth (P := P) (w := w) (base := base) T (Tt := Tt)
  have G_list := ok_list (P := P) (w := w) (base := base) T
  have G_alike := ok_alike (P := P) (w := w) (base := base) T
  have G_Trail_literals := ok_literals (P := P) (w := w) (base := base) T
  have G_Trail_sizes := ok_sizes (P := P) (w := w) (base := base) T
  have G_Trail_level_of := ok_level (P := P) (w := w) (base := base) T
  have G_Trail_reason_of := ok_reason (P := P) (w := w) (base := base) T
  have G_Trail_place_of := ok_place (P := P) (w := w) (base := base) T
  have G_Trail_value := ok_value (P := P) (w := w) (base := base) T
  have G_Trail_depth := ok_depth (P := P) (w := w) (base := base) T
  refine T.F_stands.ok sc_stands (fun vs H Q E h => ?_) (fun cdv A outer s H vs Q E hr h => ?_)
  · obtain ⟨z, rfl, _⟩ := h
    rfl
  · obtain ⟨z, rfl, so, er, hl, tw, hm, hnb, hnl, h⟩ := h
    have hsa := so.sa
    have har := so.ar
    have hul := so.rv.1
    have hs0 : atI z.line 0 = some (.ref z.x.tr) := rfl
    have hs6 : atI z.line 6 = some (.ref z.Ar) := rfl
    refine ⟨_, (pss_cons (ps_set (i := 1) sc_stands.nd rfl (.inr rfl) (pe_ix ix_list (pv 0) pe_int (fun _ _ => rfl)))
 (pss_cons (ps_set (i := 2) sc_stands.nd rfl (.inl rfl) (pe_ix ix_list (pv 0) pe_int (fun _ _ => rfl)))
 (pss_cons (ps_set (i := 3) sc_stands.nd rfl (.inl rfl) (pe_call G_depth (hr.mono (by first | decide | omega)) (by rfl) T.g_depth T.F_depth.kp T.b_depth .nil pass0 (pa_cons (pv 0) pa_nil)))
 (pss_cons (ps_set (i := 4) sc_stands.nd rfl (.inr rfl) (pe_lc (own := [("_law_row", 5)]) (g := gName 5) (tt := tYes) (by rfl) sc_stands.nd (pi_list (pv 2)) (blkOk_by (own := [("_law_row", 5)]) (N := N_stands) (sc := defScope s_stands) (by decide +kernel)) (fun _ _ _ _ _ => pg_name (i := 5) sc_stands.nd rfl (Or.inl rfl)) (fun _ _ _ _ _ => pts_nil) (fun _ _ _ _ _ => (pe_ix (show IxR _ (rIxT K) from ix_tup) (pv 5) pe_int (fun _ _ => rfl)))))
 (pss_cons (ps_if (PW.pt (pw_or (pt_not (pt_val (pe_call G_list (hr.mono (by first | decide | omega)) (by rfl) T.g_list T.F_list.kp T.b_list .nil pass0 (pa_cons (pe_meth0 (pv 1) T.cl_Trail T.M_Trail_literals G_Trail_literals (hr.mono (by first | decide | omega)) T.b_Trail_literals .nil pass0) (pa_cons (pe_lc (own := [("_law_row", 5)]) (g := gName 5) (tt := tYes) (by rfl) sc_stands.nd (pi_list (pv 2)) (blkOk_by (own := [("_law_row", 5)]) (N := N_stands) (sc := defScope s_stands) (by decide +kernel)) (fun _ _ _ _ _ => pg_name (i := 5) sc_stands.nd rfl (Or.inl rfl)) (fun _ _ _ _ _ => pts_nil) (fun _ _ _ _ _ => (pe_ix (show IxR _ (rIxT K) from ix_tup) (pv 5) pe_int (fun _ _ => rfl)))) pa_nil))))) (pw_or1 (pt_not (pt_val (pe_call G_alike (hr.mono (by first | decide | omega)) (by rfl) T.g_alike T.F_alike.kp T.b_alike .nil pass0 (pa_cons (pe_meth0 (pv 1) T.cl_Trail T.M_Trail_depth G_Trail_depth (hr.mono (by first | decide | omega)) T.b_Trail_depth .nil pass0) (pa_cons (pv 3) pa_nil)))))))) (pss_one (ps_ret pe_bl)) pss_nil)
 (pss_cons (ps_if (pt_not (pt_val (pe_call G_list (hr.mono (by first | decide | omega)) (by rfl) T.g_list T.F_list.kp T.b_list .nil pass0 (pa_cons (pe_meth0 (pv 1) T.cl_Trail T.M_Trail_sizes G_Trail_sizes (hr.mono (by first | decide | omega)) T.b_Trail_sizes .nil pass0) (pa_cons (pe_lc (own := [("_law_level", 6)]) (g := gName 6) (tt := tYes) (by rfl) sc_stands.nd (pi_range1 (by rfl) T.m_range (pa_cons (pe_op op_add (pv 3) pe_int) pa_nil)) (blkOk_by (own := [("_law_level", 6)]) (N := N_stands) (sc := defScope s_stands) (by decide +kernel)) (fun _ _ _ _ _ => pg_name (i := 6) sc_stands.nd rfl (Or.inl rfl)) (fun _ _ _ _ _ => pts_nil) (fun _ _ _ _ _ => (show PE _ _ (tBM K "list" (rCntI K) _ _) from (pe_bm PySem.F.plainAttrs_list PySem.F.slot_list_count PySem.F.type_list_count mt_lcount (pv 4) (pa_cons (pv 6) pa_nil))))) pa_nil))))) (pss_one (ps_ret pe_bl)) pss_nil)
 (pss_cons (ps_for PassesOwn.never rfl (pi_range1 (by rfl) T.m_range (pa_cons (pe_callB call_len_seq (by rfl) T.m_len (by decide +kernel) (pa_cons (pv 2) pa_nil)) pa_nil)) (pg_name (i := 7) sc_stands.nd rfl (.inl rfl)) (pss_cons (ps_set (i := 8) sc_stands.nd rfl (.inl rfl) (pe_ix ix_tup (pe_ix ix_list (pv 2) (pv 7) (fun _ _ => rfl)) pe_int (fun _ _ => rfl)))
 (pss_cons (ps_if (PW.pt (pw_or (pt_not (pt_val (pe_call G_alike (hr.mono (by first | decide | omega)) (by rfl) T.g_alike T.F_alike.kp T.b_alike .nil pass0 (pa_cons (pe_meth (pv 1) T.cl_Trail T.M_Trail_level_of G_Trail_level_of (hr.mono (by first | decide | omega)) T.b_Trail_level_of .nil X2.passN (pa_cons (pv 8) pa_nil)) (pa_cons (pe_ix ix_tup (pe_ix ix_list (pv 2) (pv 7) (fun _ _ => rfl)) pe_int (fun _ _ => rfl)) pa_nil))))) (pw_or1 (pt_not (pt_val (pe_call G_alike (hr.mono (by first | decide | omega)) (by rfl) T.g_alike T.F_alike.kp T.b_alike .nil pass0 (pa_cons (pe_meth (pv 1) T.cl_Trail T.M_Trail_place_of G_Trail_place_of (hr.mono (by first | decide | omega)) T.b_Trail_place_of .nil X2.passN (pa_cons (pe_un un_neg (pv 8)) pa_nil)) (pa_cons (pv 7) pa_nil)))))))) (pss_one (ps_ret pe_bl)) pss_nil)
 (pss_one (ps_if (PW.pt (pw_or (pt_not (pt_val (pe_call G_alike (hr.mono (by first | decide | omega)) (by rfl) T.g_alike T.F_alike.kp T.b_alike .nil pass0 (pa_cons (pe_meth (pv 1) T.cl_Trail T.M_Trail_reason_of G_Trail_reason_of (hr.mono (by first | decide | omega)) T.b_Trail_reason_of .nil X2.passN (pa_cons (pv 8) pa_nil)) (pa_cons (pe_ix ix_tup (pe_ix ix_list (pv 2) (pv 7) (fun _ _ => rfl)) pe_int (fun _ _ => rfl)) pa_nil))))) (pw_or1 (pt_cmpR LK.op_isNotF (pe_meth (pv 1) T.cl_Trail T.M_Trail_value G_Trail_value (hr.mono (by first | decide | omega)) T.b_Trail_value .nil X2.passN (pa_cons (pe_un un_neg (pv 8)) pa_nil)) pe_bl rfl)))) (pss_one (ps_ret pe_bl)) pss_nil)))))
 (pss_cons (ps_set (i := 9) sc_stands.nd rfl (.inr rfl) (pe_lc (own := [("_law_row", 5)]) (g := gName 5) (tt := tYes) (by rfl) sc_stands.nd (pi_list (pv 2)) (blkOk_by (own := [("_law_row", 5)]) (N := N_stands) (sc := defScope s_stands) (by decide +kernel)) (fun _ _ _ _ _ => pg_name (i := 5) sc_stands.nd rfl (Or.inl rfl)) (fun _ _ _ _ _ => pts_nil) (fun _ _ _ _ _ => (pe_callB call_abs (by rfl) T.m_abs (by decide +kernel) (pa_cons (pe_ix (show IxR _ (rIxT K) from ix_tup) (pv 5) pe_int (fun _ _ => rfl)) pa_nil)))))
 (pss_one (ps_ret (pe_cmpR op_eq (pe_callB call_len_seq (by rfl) T.m_len (by decide +kernel) (pa_cons (pe_lc (own := [("_law_node", 10)]) (g := gName 10) (by rfl) sc_stands.nd (pi_list (pe_ix ix_list (pv 0) pe_int (fun _ _ => rfl))) (blkOk_by (own := [("_law_node", 10)]) (N := N_stands) (sc := defScope s_stands) (by decide +kernel)) (fun _ _ _ _ _ => pg_name (i := 10) sc_stands.nd rfl (Or.inl rfl)) (fun _ _ _ _ _ => pts_one (PW.pt (pw_and (pt_cmpR (show OpR _ _ (rIn K true) from op_notIn_seq) (pv 10) (pv 9) rfl) (pw_and1 (pt_cmpR op_notN (pe_meth (pv 1) T.cl_Trail T.M_Trail_value G_Trail_value (hr.mono (by first | decide | omega)) T.b_Trail_value .nil X2.passN (pa_cons (pv 10) pa_nil)) pe_non (nomark _)))))) (fun _ _ _ _ _ => (pv 10))) pa_nil)) pe_int (nomark _)))))))))))), ?_⟩
    refine Z.w_start (σ' := [some (.ref z.Sa), none, none, none, none, none, none, none, none, none, none]) rfl ?_
    walk_at "w"
    refine ⟨z, rfl, so, by omega, fun H1 s1 => ?_⟩
    have har1 := s1 _ _ har
    walk_at "w"
    intro D hD
    refine lcl (K := K) (levs z.rs) (fun n => some (V.int (n : Int))) (by rw [levs_len]; exact hul) (by rw [levs_len]; omega) hD (.inl (.inl har1)) ?_ ?_
    · rintro i x y H' acc N hx hy sm eD sz k1 k2
      have hi : i < z.rs.length := by
        have := (List.getElem?_eq_some_iff.mp hy).1
        rwa [levs_len] at this
      obtain ⟨p, e1, e2⟩ := so.rv.2 i _ (List.getElem?_eq_getElem hi)
      rw [hx] at e1
      obtain rfl := Option.some.inj e1
      have ht := sm _ _ (s1 _ _ e2)
      refine Z.w_gname rfl ⟨rfl, ?_⟩
      walk_at "w"
      have ey := (levs_at hy).2
      rw [← ey]
      exact ⟨acc, eD, sz, k1 _ rfl⟩
    · intro H2 s2 eD
      have s12 := s1.trans s2
      have so2 := so.same s12
      rw [List.filterMap_eq_map', show ((fun n : Nat => V.int (n : Int)) : Nat → V) = (V.int ∘ fun n : Nat => (n : Int)) from rfl, ← List.map_map] at eD
      walk_at "w"
      refine w_meth0 so2.ok.ta.obj rfl (by rfl) ?_
      walk_at "w"
      refine ⟨z.x.tr, z.x.t, z.x.ns, z.x.rs, rfl, so2.ok.ta, fun p hp => ?_⟩
      rw [← er]
      have s3 := same_of (Same.refl H2) hp (o := .lst ((lits z.rs).map V.int))
      have ep : upd H2 p (.lst ((lits z.rs).map V.int)) p = some (.lst ((lits z.rs).map V.int)) := upd_same
      generalize upd H2 p (.lst ((lits z.rs).map V.int)) = H3 at s3 ep ⊢
      have so3 := so2.same s3
      have har3 := so3.ar
      walk_at "w"
      intro D2 hD2
      refine lcl (K := K) z.rs (fun r => some (V.int r.1)) hul (by omega) hD2 (.inl (.inl so3.ar)) ?_ ?_
      · rintro i x y H' acc N hx hy sm eD sz k1 k2
        obtain ⟨p, e1, e2⟩ := so3.rv.2 i _ hy
        rw [hx] at e1
        obtain rfl := Option.some.inj e1
        have ht := sm _ _ e2
        refine Z.w_gname rfl ⟨rfl, ?_⟩
        walk_at "w"
        exact ⟨acc, eD, sz, k1 _ rfl⟩
      · intro H4 s4 eD2
        have el : z.rs.filterMap (fun r => some (V.int r.1)) = (lits z.rs).map V.int := by
          rw [List.filterMap_eq_map']
          unfold lits
          rw [List.map_map]
          rfl
        rw [el] at eD2
        walk_at "w"
        have hll : ((lits z.rs).map V.int).length = z.rs.length := by rw [List.length_map]; exact List.length_map _
        refine use_list (s4 _ _ ep) eD2 (fun u hu => ?_) (by omega) ?_
        · obtain ⟨y, _, rfl⟩ := List.mem_map.mp hu
          exact ⟨y, rfl⟩
        have s24 := s3.trans s4
        have so4 := so2.same s24
        have eD4 := s24 _ _ eD
        walk_at "w"
        refine w_meth0 so4.ok.ta.obj rfl (by rfl) ?_
        walk_at "w"
        refine ⟨z.x.tr, z.x.t, z.x.ns, z.x.rs, rfl, so4.ok.ta, ?_⟩
        rw [← er]
        walk_at "w"
        refine use_alike (.inr ⟨_, rfl⟩) ?_
        walk_at "w"
        refine w_meth0 so4.ok.ta.obj rfl (by rfl) ?_
        walk_at "w"
        refine ⟨z.x.tr, z.x.t, z.x.ns, z.x.rs, rfl, so4.ok.ta, by rw [← er]; omega, fun p2 H5 s5 fp2 e5 => ?_⟩
        rw [← er] at e5
        have so5 := so4.same s5
        have eD5 := s5 _ _ eD4
        have hdl : dep z.rs ≤ 50 := Nat.le_trans List.countP_le_length hl
        have hS5 : SqL K H5 D (((levs z.rs).map fun n : Nat => (n : Int)).map V.int) := .inl (.inl eD5)
        walk_at "w"
        refine ⟨by omega, by omega, ?_⟩
        intro D3 hD3
        have en : ((dep z.rs : Int) + 1).toNat = dep z.rs + 1 := by omega
        rw [en]
        have hsl : (List.range (dep z.rs + 1)).length = dep z.rs + 1 := List.length_range
        refine lcr (List.range (dep z.rs + 1)) (fun k : Nat => some (V.int ((ed z.rs (k + 1) : Int) - (ed z.rs k : Int)))) hsl.symm (by omega) hD3 ?_ ?_
        · rintro i y H' acc N hi hy sm eDD sz k1 k2
          rw [List.getElem?_range hi] at hy
          obtain rfl := Option.some.inj hy
          have hS8 : SqL K H' D (((levs z.rs).map fun n : Nat => (n : Int)).map V.int) := Evl.ex_l sm hS5
          refine Z.w_gname rfl ⟨rfl, ?_⟩
          walk_at "w"
          refine Z.w_bm ?_
          walk_at "w"
          refine ⟨.inl ⟨rfl, _, hS8⟩, ?_⟩
          walk_at "w"
          refine ⟨D, _, _, rfl, rfl, hS8, ?_⟩
          refine ⟨acc, eDD, sz, ?_⟩
          rw [Int.zero_add, count_levels]
          exact k1 _ rfl
        · intro H6 s6 e6
          have es : (List.range (dep z.rs + 1)).filterMap (fun k : Nat => some (V.int ((ed z.rs (k + 1) : Int) - (ed z.rs k : Int)))) = sizesV z.rs := by
            rw [List.filterMap_eq_map']
            rfl
          rw [es] at e6
          have so6 := so5.same s6
          have har6 := so6.ar
          have s06 := (s12.trans s24).trans (s5.trans s6)
          walk_at "w"
          refine use_list (s6 _ _ e5) e6 (fun u hu => ?_) ?_ ?_
          · obtain ⟨y, _, rfl⟩ := List.mem_map.mp hu
            exact ⟨_, rfl⟩
          · unfold sizesV
            rw [List.length_map, List.length_range]
            omega
          walk_at "w"
          rw [hul]
          refine ⟨by omega, by omega, ?_⟩
          refine for_range (fun i σ H9 => ∃ x7 x8, σ = [some (.ref z.Sa), some (.ref z.x.tr), some (.ref z.Ar), some (.int (dep z.rs : Int)), some (.ref D), none, none, x7, x8, none, none] ∧ H9 = H6) ?_ ?_ ?_
          · exact ⟨_, _, rfl, rfl⟩
          · rintro i σ H9 hi ⟨x7, x8, rfl, rfl⟩
            have hy : z.rs[i]? = some z.rs[i] := List.getElem?_eq_getElem hi
            obtain ⟨pr, e1, e2⟩ := so6.rv.2 i _ hy
            generalize z.rs[i] = r at hy e2
            have ai : atI z.us (0 + (i : Int)) = some (.ref pr) := by rw [Int.zero_add]; exact atI_nat e1
            have ai' : atI z.us (i : Int) = some (.ref pr) := atI_nat e1
            obtain ⟨hm1, hm2, hm3⟩ := hm r.1 (List.mem_map.mpr ⟨r, List.mem_of_getElem? hy, rfl⟩)
            have hpl := plc_at tw.lits hy
            have hnl : -r.1 ∉ lits z.rs := fun m => by
              obtain ⟨r2, h2, e2⟩ := List.mem_map.mp m
              obtain ⟨j, hj⟩ := List.mem_iff_getElem?.mp h2
              have nt := tw
              unfold NoTwin at nt
              have q1 : (z.rs.map fun r => r.1.natAbs)[i]? = some r.1.natAbs := by rw [List.getElem?_map, hy]; rfl
              have q2 : (z.rs.map fun r => r.1.natAbs)[j]? = some r.1.natAbs := by rw [List.getElem?_map, hj]; show some r2.1.natAbs = _; rw [e2, Int.natAbs_neg]
              have := (List.getElem?_inj (List.getElem?_eq_some_iff.mp q1).1 nt).mp (q1.trans q2.symm)
              subst this
              rw [hy] at hj
              rw [← Option.some.inj hj] at e2
              omega
            have hpln : plc z.rs (-r.1) = some i := by
              rw [plc_not hnl, Int.neg_neg]
              have hin : r.1 ∈ lits z.rs := List.mem_map.mpr ⟨r, List.mem_of_getElem? hy, rfl⟩
              obtain ⟨k, k1, k2⟩ := plc_in hin
              rw [hpl] at k2
              rw [k1, k2]
            walk_at "w"
            refine w_meth0 so6.ok.ta.obj rfl (by rfl) ?_
            walk_at "w"
            refine ⟨z.x.tr, z.x.t, z.x.ns, z.x.rs, r.1, rfl, so6.ok.ta, hm2, by rw [← er]; omega, fun _ => ?_, fun q => absurd hm1 q⟩
            rw [← er]
            rw [atP_some hpl (levs_get hi)]
            walk_at "w"
            refine use_alike (.inr ⟨_, rfl⟩) ?_
            walk_at "w"
            refine w_meth0 so6.ok.ta.obj rfl (by rfl) ?_
            walk_at "w"
            refine ⟨z.x.tr, z.x.t, z.x.ns, z.x.rs, -r.1, rfl, so6.ok.ta, by rw [Int.natAbs_neg]; exact hm2, by rw [← er]; omega, fun _ => ?_, fun q => absurd (by rw [Int.natAbs_neg]; exact hm1) q⟩
            rw [← er]
            dsimp only
            rw [hpln]
            show tCons (tVar 7) tNil _ _ _
            walk_at "w"
            rw [Int.zero_add]
            refine use_alike (v := V.int (i : Int)) (.inr ⟨_, rfl⟩) ?_
            walk_at "w"
            refine w_meth0 so6.ok.ta.obj rfl (by rfl) ?_
            walk_at "w"
            refine ⟨z.x.tr, z.x.t, z.x.ns, z.x.rs, r.1, rfl, so6.ok.ta, hm2, by rw [← er]; omega, fun _ => ?_, fun q => absurd hm1 q⟩
            rw [← er]
            rw [atP_some (v := rV r.2) hpl (by rw [List.getElem?_map, hy]; rfl)]
            walk_at "w"
            refine use_alike (flv_rV _) ?_
            walk_at "w"
            refine w_meth0 so6.ok.ta.obj rfl (by rfl) ?_
            walk_at "w"
            refine ⟨z.x.tr, z.x.t, z.x.ns, z.x.rs, -r.1, rfl, so6.ok.ta, by rw [Int.natAbs_neg]; exact hm2, by rw [← er]; omega, fun _ => ?_, fun q => absurd (by rw [Int.natAbs_neg]; exact hm1) q⟩
            have hv : val z.x.rs (-r.1) = .bl false := by
              unfold val
              have hin : r.1 ∈ lits z.rs := List.mem_map.mpr ⟨r, List.mem_of_getElem? hy, rfl⟩
              rw [← er, if_neg hnl, Int.neg_neg, if_pos hin]
            rw [hv]
            walk_at "w"
            rfl
          · rintro σ H9 ⟨x7, x8, rfl, rfl⟩
            walk_at "w"
            intro D4 hD4
            refine lcl (K := K) z.rs (fun r => some (V.int (r.1.natAbs : Int))) hul (by omega) hD4 (.inl (.inl har6)) ?_ ?_
            · rintro i x y H' acc N hx hy sm eD sz k1 k2
              obtain ⟨p, e1, e2⟩ := so6.rv.2 i _ hy
              rw [hx] at e1
              obtain rfl := Option.some.inj e1
              have ht := sm _ _ e2
              refine Z.w_gname rfl ⟨rfl, ?_⟩
              walk_at "w"
              have ea : (if y.1 < 0 then -y.1 else y.1) = (y.1.natAbs : Int) := by split <;> omega
              rw [ea]
              exact ⟨acc, eD, sz, k1 _ rfl⟩
            intro H7 s7 eD4
            have el : z.rs.filterMap (fun r => some (V.int (r.1.natAbs : Int))) = ((lits z.rs).map fun l => (l.natAbs : Int)).map V.int := by
              rw [List.filterMap_eq_map']
              unfold lits
              rw [List.map_map, List.map_map]
              rfl
            rw [el] at eD4
            have so7 := so6.same s7
            have hsa7 := so7.sa
            have han7 := so7.an
            have hs2 : atI z.line 2 = some (.ref z.An) := rfl
            walk_at "w"
            intro D5 hD5
            refine lcl (K := K) z.x.ns (fun _ => none) (List.length_map _) (by omega) hD5 (.inl (.inl han7)) ?_ ?_
            · rintro i x n H' acc N hx hn sm eA sz k1 k2
              rw [List.getElem?_map, hn] at hx
              obtain rfl := Option.some.inj hx
              have eD7 := sm _ _ eD4
              have so8 := so7.same sm
              obtain ⟨b1, b2⟩ := hnb n (List.mem_of_getElem? hn)
              refine Z.w_gname rfl ⟨rfl, ?_⟩
              walk_at "w"
              refine w_inI (.inl (.inl (.inl eD7))) ?_
              rw [if_pos rfl]
              by_cases e : n ∈ (lits z.rs).map (fun l => (l.natAbs : Int))
              · rw [decide_eq_true e]
                walk_at "w"
                exact k2 rfl
              · rw [decide_eq_false e]
                walk_at "w"
                refine w_meth0 so8.ok.ta.obj rfl (by rfl) ?_
                walk_at "w"
                refine ⟨z.x.tr, z.x.t, z.x.ns, z.x.rs, n, rfl, so8.ok.ta, by omega, by rw [← er]; omega, fun _ => ?_, fun q => absurd (by rw [Int.natAbs_of_nonneg (by omega)]; exact List.mem_of_getElem? hn) q⟩
                have hv : val z.x.rs n = .non := by
                  unfold val
                  rw [← er, if_neg (fun m => e (List.mem_map.mpr ⟨n, m, by omega⟩)), if_neg (fun m => e (List.mem_map.mpr ⟨-n, m, by omega⟩))]
                rw [hv]
                walk_at "w"
                exact k2 rfl
            intro H8 s8 eE
            have e0 : List.filterMap (fun (_ : Int) => (none : Option V)) z.x.ns = [] := by simp
            rw [e0] at eE
            walk_at "w"
            exact h _ ((s06.trans s7).trans s8)
end
end L

namespace L
open PySem PySem.Spec PyProof.Rows L2 Z M MR MT X2
open _root_.SX (S S_len S_cat S_inj)
section
variable {K : PySem.W.Frag} {CT CW : Addr} {T : Tb} {H H' : Hp} {z : SS}
/-- one of the law's lists changes -/
theorem SOk.wr (h : SOk K CT CW T H z) {b : Addr} (hb : b ∈ z.seven) (u : HO) : WOk K CT CW (upd H b u) z.x ∧ LamX.Tabs T (upd H b u) ∧ (∀ c ys, SqT K H c ys → SqT K (upd H b u) c ys) ∧ (∀ us rs hd, RowsH H us rs hd → RowsH (upd H b u) us rs hd) ∧ DX T z.all z.all H (upd H b u) := by
  obtain ⟨xs, e⟩ := h.lst b hb
  have fr : ∀ c v, c ≠ b → H c = some v → upd H b u c = some v := fun c v n ec => (upd_ne n).trans ec
  exact ⟨h.ok.lst e (h.sep b hb) fr, tabs_lst h.tab e fr, fun c ys s => sqT_lst e fr s, fun us rs hd s => rows_lst e fr s, (DX.refl _ _).put' (List.mem_append_left _ hb) e trivial⟩
def SNe (z : SS) : Prop := z.Sa ≠ z.An ∧ z.Sa ≠ z.Ac ∧ z.Sa ≠ z.As ∧ z.Sa ≠ z.Af ∧ z.Sa ≠ z.Ar ∧ z.Sa ≠ z.Al ∧ z.An ≠ z.Ac ∧ z.An ≠ z.As ∧ z.An ≠ z.Af ∧ z.An ≠ z.Ar ∧ z.An ≠ z.Al ∧ z.Ac ≠ z.As ∧ z.Ac ≠ z.Af ∧ z.Ac ≠ z.Ar ∧ z.Ac ≠ z.Al ∧ z.As ≠ z.Af ∧ z.As ≠ z.Ar ∧ z.As ≠ z.Al ∧ z.Af ≠ z.Ar ∧ z.Af ≠ z.Al ∧ z.Ar ≠ z.Al
theorem SOk.ne (h : SOk K CT CW T H z) : SNe z := by
  have nd := h.nd
  simp only [SS.seven, List.nodup_cons, List.mem_cons, List.not_mem_nil, or_false, not_or, not_false_eq_true, List.nodup_nil, and_true] at nd
  obtain ⟨⟨a1, a2, a3, a4, a5, a6⟩, ⟨b1, b2, b3, b4, b5⟩, ⟨c1, c2, c3, c4⟩, ⟨d1, d2, d3⟩, ⟨e1, e2⟩, f1⟩ := nd
  exact ⟨a1, a2, a3, a4, a5, a6, b1, b2, b3, b4, b5, c1, c2, c3, c4, d1, d2, d3, e1, e2, f1⟩
/-- the mark: propagated or not -/
theorem Go.mark (h : SOk K CT CW T H z) (b : Bool) : Go K CT CW T H (upd H z.Sa (.lst { z with pr := b }.line)) z { z with pr := b } := by
  obtain ⟨w1, w2, w3, w4, w5⟩ := h.wr (b := z.Sa) (by simp [SS.seven]) (.lst { z with pr := b }.line)
  obtain ⟨a1, a2, a3, a4, a5, a6, _⟩ := h.ne
  exact ⟨w5, ⟨w1, w2, upd_same, upd_keep a1.symm h.an, upd_keep a2.symm h.ac, fun c hc => w3 _ _ (h.ct c hc), upd_keep a3.symm h.as, upd_keep a4.symm h.af, upd_keep a5.symm h.ar, w4 _ _ _ h.rv, upd_keep a6.symm h.al, h.sep, h.nd⟩, rfl⟩
theorem Go.addC (h : SOk K CT CW T H z) (c : Addr × List Int) (hc : SqT K H c.1 (c.2.map V.int)) : Go K CT CW T H (upd H z.Ac (.lst (refs z.cs ++ [.ref c.1]))) z { z with cs := z.cs ++ [c] } := by
  obtain ⟨w1, w2, w3, w4, w5⟩ := h.wr (b := z.Ac) (by simp [SS.seven]) (.lst (refs z.cs ++ [.ref c.1]))
  obtain ⟨a1, a2, a3, a4, a5, a6, b1, b2, b3, b4, b5, c1, c2, c3, c4, d1, d2, d3, e1, e2, f1⟩ := h.ne
  refine ⟨w5, ⟨w1, w2, upd_keep a2 h.sa, upd_keep b1 h.an, ?_, fun d hd => ?_, upd_keep c1.symm h.as, upd_keep c2.symm h.af, upd_keep c3.symm h.ar, w4 _ _ _ h.rv, upd_keep c4.symm h.al, h.sep, h.nd⟩, rfl⟩
  · rw [upd_same]
    unfold refs
    rw [List.map_append]
    rfl
  · rcases List.mem_append.mp hd with hd | hd
    · exact w3 _ _ (h.ct d hd)
    · rw [List.mem_singleton.mp hd]
      exact w3 _ _ hc
theorem Go.addS (h : SOk K CT CW T H z) (s : Int) : Go K CT CW T H (upd H z.As (.lst (z.so.map V.int ++ [.int s]))) z { z with so := z.so ++ [s] } := by
  obtain ⟨w1, w2, w3, w4, w5⟩ := h.wr (b := z.As) (by simp [SS.seven]) (.lst (z.so.map V.int ++ [.int s]))
  obtain ⟨a1, a2, a3, a4, a5, a6, b1, b2, b3, b4, b5, c1, c2, c3, c4, d1, d2, d3, e1, e2, f1⟩ := h.ne
  refine ⟨w5, ⟨w1, w2, upd_keep a3 h.sa, upd_keep b2 h.an, upd_keep c1 h.ac, fun c hc => w3 _ _ (h.ct c hc), ?_, upd_keep d1.symm h.af, upd_keep d2.symm h.ar, w4 _ _ _ h.rv, upd_keep d3.symm h.al, h.sep, h.nd⟩, rfl⟩
  rw [upd_same]
  show _ = some (HO.lst ((z.so ++ [s]).map V.int))
  rw [List.map_append]
  rfl
theorem Go.setF (h : SOk K CT CW T H z) (fg : List Bool) : Go K CT CW T H (upd H z.Af (.lst (fg.map V.bl))) z { z with fg := fg } := by
  obtain ⟨w1, w2, w3, w4, w5⟩ := h.wr (b := z.Af) (by simp [SS.seven]) (.lst (fg.map V.bl))
  obtain ⟨a1, a2, a3, a4, a5, a6, b1, b2, b3, b4, b5, c1, c2, c3, c4, d1, d2, d3, e1, e2, f1⟩ := h.ne
  exact ⟨w5, ⟨w1, w2, upd_keep a4 h.sa, upd_keep b3 h.an, upd_keep c2 h.ac, fun c hc => w3 _ _ (h.ct c hc), upd_keep d1 h.as, upd_same, upd_keep e1.symm h.ar, w4 _ _ _ h.rv, upd_keep e2.symm h.al, h.sep, h.nd⟩, rfl⟩
/-- new rows in a new list -/
theorem Go.rows (h : SOk K CT CW T H z) {p : Addr} {us : List V} {rs : List TRow} {hd : List Bool} (hp : H p = some (.lst us)) (rv : RowsH H us rs hd) (np : p ∉ z.all) : DX T (p :: z.all) (p :: z.all) H (upd H z.Sa (.lst { z with Ar := p }.line)) ∧ SOk K CT CW T (upd H z.Sa (.lst { z with Ar := p }.line)) { z with Ar := p, us := us, rs := rs, hd := hd } := by
  obtain ⟨w1, w2, w3, w4, w5⟩ := h.wr (b := z.Sa) (by simp [SS.seven]) (.lst { z with Ar := p }.line)
  obtain ⟨a1, a2, a3, a4, a5, a6, _⟩ := h.ne
  have n : ∀ b ∈ z.seven, p ≠ b := fun b hb e => np (by rw [e]; exact List.mem_append_left _ hb)
  refine ⟨w5.cons p, ⟨w1, w2, upd_same, upd_keep a1.symm h.an, upd_keep a2.symm h.ac, fun c hc => w3 _ _ (h.ct c hc), upd_keep a3.symm h.as, upd_keep a4.symm h.af, upd_keep (n _ (by simp [SS.seven])) hp, w4 _ _ _ rv, upd_keep a6.symm h.al, fun b hb => ?_, ?_⟩⟩
  · simp only [SS.seven, List.mem_cons, List.not_mem_nil, or_false] at hb
    rcases hb with rfl | rfl | rfl | rfl | rfl | rfl | rfl
    · exact h.sep _ (by simp [SS.seven])
    · exact h.sep _ (by simp [SS.seven])
    · exact h.sep _ (by simp [SS.seven])
    · exact h.sep _ (by simp [SS.seven])
    · exact h.sep _ (by simp [SS.seven])
    · exact fun m => np (List.mem_append_right _ m)
    · exact h.sep _ (by simp [SS.seven])
  · have nd := h.nd
    simp only [SS.seven, List.nodup_cons, List.mem_cons, List.not_mem_nil, or_false, not_or, not_false_eq_true, List.nodup_nil, and_true] at nd ⊢
    obtain ⟨⟨a1, a2, a3, a4, a5, a6⟩, ⟨b1, b2, b3, b4, b5⟩, ⟨c1, c2, c3, c4⟩, ⟨d1, d2, d3⟩, ⟨e1, e2⟩, f1⟩ := nd
    exact ⟨⟨a1, a2, a3, a4, (n _ (by simp [SS.seven])).symm, a6⟩, ⟨b1, b2, b3, (n _ (by simp [SS.seven])).symm, b5⟩, ⟨c1, c2, (n _ (by simp [SS.seven])).symm, c4⟩, ⟨d1, (n _ (by simp [SS.seven])).symm, d3⟩, ⟨(n _ (by simp [SS.seven])).symm, e2⟩, n _ (by simp [SS.seven])⟩
/-- .. where the list was made behind H0 -/
theorem Go.rows' {H0 : Hp} (h : SOk K CT CW T H z) (g : DX T z.all z.all H0 H) {p : Addr} {us : List V} {rs : List TRow} {hd : List Bool} (hp : H p = some (.lst us)) (h0 : H0 p = none) (rv : RowsH H us rs hd) (np : p ∉ z.all) : Go K CT CW T H0 (upd H z.Sa (.lst { z with Ar := p }.line)) z { z with Ar := p, us := us, rs := rs, hd := hd } := by
  obtain ⟨d, so⟩ := Go.rows h hp rv np
  refine ⟨?_, so, rfl⟩
  have d0 : DX T z.all (p :: z.all) H0 H := ⟨g.kp, fun b hb => ?_, g.tb⟩
  · refine (d0.trans d).sub fun b hb => ?_
    rcases List.mem_append.mp hb with hb | hb
    · simp only [SS.seven, List.mem_cons, List.not_mem_nil, or_false] at hb
      have m : ∀ b ∈ z.seven, b ∈ p :: z.all := fun b hb => List.mem_cons_of_mem _ (List.mem_append_left _ hb)
      rcases hb with rfl | rfl | rfl | rfl | rfl | rfl | rfl
      · exact m _ (by simp [SS.seven])
      · exact m _ (by simp [SS.seven])
      · exact m _ (by simp [SS.seven])
      · exact m _ (by simp [SS.seven])
      · exact m _ (by simp [SS.seven])
      · exact List.mem_cons_self
      · exact m _ (by simp [SS.seven])
    · exact List.mem_cons_of_mem _ (List.mem_append_right _ hb)
  · rcases List.mem_cons.mp hb with rfl | hb
    · exact .inr fun x e => by rw [h0] at e; cases e
    · exact .inl hb
end
end L

namespace UP
theorem pass_app : ∀ (a b : List (List Int)) (f : List Int), pass f (a ++ b) = (pass f a).bind fun g => pass g b
  | [], b, f => rfl
  | c :: a, b, f => by
    show (one f c).bind (fun f' => pass f' (a ++ b)) = ((one f c).bind fun f' => pass f' a).bind fun g => pass g b
    cases one f c with
    | none => rfl
    | some g => exact pass_app a b g
/-- the clauses that are not forgotten -/
def liv : List (List Int) → List Bool → List (List Int)
  | c :: cs, b :: fg => if b then liv cs fg else c :: liv cs fg
  | _, _ => []
theorem liv_mem : ∀ {cs : List (List Int)} {fg : List Bool}, fg.length = cs.length → ∀ {c : List Int}, c ∈ liv cs fg ↔ ∃ n, cs[n]? = some c ∧ fg.getD n false = false
  | [], [], _, c => by simp [liv]
  | c0 :: cs, b :: fg, h, c => by
    have ih := liv_mem (cs := cs) (fg := fg) (Nat.succ.inj h) (c := c)
    have e : (∃ n, (c0 :: cs)[n]? = some c ∧ (b :: fg).getD n false = false) ↔ (c0 = c ∧ b = false) ∨ ∃ n, cs[n]? = some c ∧ fg.getD n false = false := by
      constructor
      · rintro ⟨n, h1, h2⟩
        cases n with
        | zero => exact .inl ⟨Option.some.inj h1, h2⟩
        | succ n => exact .inr ⟨n, h1, h2⟩
      · rintro (⟨h1, h2⟩ | ⟨n, h1, h2⟩)
        · exact ⟨0, by rw [h1]; rfl, h2⟩
        · exact ⟨n + 1, h1, h2⟩
    rw [e, ← ih, show liv (c0 :: cs) (b :: fg) = if b = true then liv cs fg else c0 :: liv cs fg from rfl]
    cases b with
    | true => simp
    | false => simp [eq_comm]
theorem liv_take : ∀ {cs : List (List Int)} {fg : List Bool} {k : Nat} {c : List Int} {b : Bool}, cs[k]? = some c → fg[k]? = some b → liv (cs.take (k + 1)) (fg.take (k + 1)) = liv (cs.take k) (fg.take k) ++ if b then [] else [c]
  | [], _, k, c, b, h, _ => by cases h
  | _ :: _, [], k, c, b, _, h => by cases h
  | c0 :: cs, b0 :: fg, 0, c, b, h1, h2 => by
    obtain rfl := Option.some.inj h1
    obtain rfl := Option.some.inj h2
    show (if b0 then liv (cs.take 0) (fg.take 0) else c0 :: liv (cs.take 0) (fg.take 0)) = _
    cases b0 <;> simp [liv]
  | c0 :: cs, b0 :: fg, k + 1, c, b, h1, h2 => by
    have ih := liv_take (cs := cs) (fg := fg) (k := k) h1 h2
    show (if b0 then liv (cs.take (k + 1)) (fg.take (k + 1)) else c0 :: liv (cs.take (k + 1)) (fg.take (k + 1))) = (if b0 then liv (cs.take k) (fg.take k) else c0 :: liv (cs.take k) (fg.take k)) ++ _
    rw [ih]
    cases b0 <;> simp
theorem liv_split : ∀ (cs : List (List Int)) (fg : List Bool) (k : Nat), liv cs fg = liv (cs.take k) (fg.take k) ++ liv (cs.drop k) (fg.drop k)
  | cs, fg, 0 => by simp [liv]
  | [], fg, k + 1 => by simp [liv]
  | c :: cs, [], k + 1 => by simp [liv]
  | c :: cs, b :: fg, k + 1 => by
    have ih := liv_split cs fg k
    show (if b = true then liv cs fg else c :: liv cs fg) = (if b = true then liv (cs.take k) (fg.take k) else c :: liv (cs.take k) (fg.take k)) ++ liv (cs.drop k) (fg.drop k)
    rw [ih]
    cases b <;> simp
theorem der_over {cs : List (List Int)} {s : List Int} {ns : List Int} (h1 : ∀ x ∈ s, (x.natAbs : Int) ∈ ns) (h2 : ∀ c ∈ cs, ∀ l ∈ c, (l.natAbs : Int) ∈ ns) {x : Int} (d : Der cs s x) : (x.natAbs : Int) ∈ ns := by
  cases d with
  | base h => exact h1 x h
  | step hc hl _ => exact h2 _ hc x hl
theorem good_len {cs : List (List Int)} {s f : List Int} {ns : List Int} (g : Good cs s f) (h : ∀ x ∈ f, (x.natAbs : Int) ∈ ns) (h0 : ∀ x ∈ f, x ≠ 0) : f.length ≤ ns.length := by
  have nd : (f.map fun x => (x.natAbs : Int)).Nodup := by
    have := g.nd
    rw [List.nodup_iff_pairwise_ne] at this
    rw [List.nodup_iff_pairwise_ne, List.pairwise_map]
    refine this.imp_of_mem fun {a b} ha hb hne e => ?_
    rcases (show a = b ∨ a = -b by omega) with q | q
    · exact hne q
    · exact g.con b hb (by rw [← q]; exact ha)
  have := WA.sub_len nd fun a ha => by
    obtain ⟨x, hx, rfl⟩ := List.mem_map.mp ha
    exact h x hx
  rwa [List.length_map] at this
end UP

namespace WA
theorem one_left {t : Tr} {d : Nat} {c w : List Int} (T : TI t d t.length) (o : One t d t.length c false w) (nz : ∀ l ∈ c, l ≠ 0) : (∃ l ∈ c, -l ∉ lits t) ∧ ∀ l ∈ c, -l ∉ lits t → (∀ y ∈ c, -y ∉ lits t → y = l) → l ∈ lits t := by
  by_cases h2 : 2 ≤ c.length
  · obtain ⟨a, b, e, h⟩ := o.wi h2
    have half : ∀ {x y : Int}, Half t t.length x y → -x ∈ lits t → y ∈ lits t := fun {x y} hh hx => by
      obtain ⟨v, i, hi⟩ := At.of hx
      obtain ⟨j, u, hj, _⟩ := hh i v (List.getElem?_eq_some_iff.mp hi).1 hi
      exact At.mem ⟨j, hj⟩
    by_cases ha : -a ∈ lits t
    · have hb := half h.ab ha
      have nb : -b ∉ lits t := fun z => T.con (nz b h.mb) hb z
      refine ⟨⟨b, h.mb, nb⟩, fun l hl _ u => ?_⟩
      rw [← u b h.mb nb]
      exact hb
    · refine ⟨⟨a, h.ma, ha⟩, fun l hl nl u => ?_⟩
      have e1 := u a h.ma ha
      by_cases hb : -b ∈ lits t
      · rw [← e1]
        exact half h.ba hb
      · exact absurd (e1.trans (u b h.mb hb).symm) h.ne
  · unfold One at o
    rw [if_neg h2, if_neg (by decide)] at o
    obtain ⟨_, l, e, j, hj⟩ := o
    subst e
    have hl := At.mem ⟨j, hj⟩
    refine ⟨⟨l, by simp, fun z => T.con (nz l (by simp)) hl z⟩, fun y hy _ _ => ?_⟩
    rw [List.mem_singleton.mp hy]
    exact hl
end WA

namespace L
open PySem PySem.Spec PyProof.Rows L2 Z M MR MT X2
open _root_.SX (S S_len S_cat S_inj)
/-- the literals that were put on by hand -/
def hands (rs : List TRow) (hd : List Bool) : List Int := ((rs.zip hd).filter fun p => p.2).map fun p => p.1.1
theorem hands_sub {rs : List TRow} {hd : List Bool} {l : Int} (h : l ∈ hands rs hd) : l ∈ lits rs := by
  obtain ⟨p, hp, rfl⟩ := List.mem_map.mp h
  exact List.mem_map.mpr ⟨p.1, (List.of_mem_zip (List.mem_filter.mp hp).1).1, rfl⟩
theorem hands_snoc {rs : List TRow} {hd : List Bool} (hl : hd.length = rs.length) (r : TRow) (b : Bool) : hands (rs ++ [r]) (hd ++ [b]) = if b = true then hands rs hd ++ [r.1] else hands rs hd := by
  unfold hands
  rw [List.zip_append (by omega), List.filter_append]
  cases b <;> simp
theorem zip_sub : ∀ (rs : List TRow) (hd : List Bool), ((rs.zip hd).map fun p => p.1).Sublist rs
  | [], _ => by simp
  | _ :: _, [] => by simp
  | r :: rs, b :: hd => by
    rw [List.zip_cons_cons, List.map_cons]
    exact (zip_sub rs hd).cons₂ r
theorem hands_nd {rs : List TRow} {hd : List Bool} (nd : (lits rs).Nodup) : (hands rs hd).Nodup := by
  have h2 : (hands rs hd).Sublist (lits rs) := by
    have h1 : (((rs.zip hd).filter fun p => p.2).map fun p => p.1).Sublist rs := (List.filter_sublist.map _).trans (zip_sub rs hd)
    have := h1.map (fun r : TRow => r.1)
    rw [List.map_map] at this
    exact this
  exact nd.sublist h2
theorem mem_hands {rs : List TRow} {hd : List Bool} {i : Nat} {r : TRow} (e : rs[i]? = some r) (h : hd.getD i false = true) : r.1 ∈ hands rs hd := by
  rw [List.getD_eq_getElem?_getD] at h
  have hb : hd[i]? = some true := by
    cases q : hd[i]? with
    | none => rw [q] at h; cases h
    | some b => rw [q] at h; rw [show b = true from h]
  exact List.mem_map.mpr ⟨(r, true), List.mem_filter.mpr ⟨List.mem_of_getElem? (List.getElem?_zip_eq_some.mpr ⟨e, hb⟩), rfl⟩, rfl⟩
/-- each row that wasn't put on by hand: its reason has it, the others were false before -/
def RInvH (cs : List (List Int)) (fg : List Bool) (rs : List TRow) (hd : List Bool) : Prop := ∀ (i : Nat) (l : Int) (r : Option Int), rs[i]? = some (l, r) → hd.getD i false = false → ∃ (m : Nat) (c : List Int), r = some (m : Int) ∧ cs[m]? = some c ∧ fg.getD m false = false ∧ l ∈ c ∧ ∀ y ∈ c, y ≠ l → -y ∈ lits (rs.take i)
/-- the marks behind new rows -/
def hdG (hd : List Bool) (n : Nat) : List Bool := hd ++ List.replicate (n - hd.length) false
theorem hdG_len {hd : List Bool} {n : Nat} (h : hd.length ≤ n) : (hdG hd n).length = n := by
  unfold hdG
  rw [List.length_append, List.length_replicate]
  omega
theorem hdG_get {hd : List Bool} {n i : Nat} : (hdG hd n).getD i false = hd.getD i false := by
  unfold hdG
  rw [List.getD_eq_getElem?_getD, List.getD_eq_getElem?_getD]
  by_cases h : i < hd.length
  · rw [List.getElem?_append_left h]
  · rw [List.getElem?_append_right (by omega), List.getElem?_eq_none (l := hd) (by omega)]
    cases e : (List.replicate (n - hd.length) false)[i - hd.length]? with
    | none => rfl
    | some b =>
      rw [(List.mem_replicate.mp (List.mem_of_getElem? e)).2]
      rfl
theorem hands_grow {rs rs1 : List TRow} {hd : List Bool} (hl : hd.length = rs.length) (hp : rs <+: rs1) : hands rs1 (hdG hd rs1.length) = hands rs hd := by
  obtain ⟨n, rfl⟩ := hp
  unfold hands hdG
  rw [List.zip_append (by omega), List.filter_append, List.map_append, List.length_append]
  have : (n.zip (List.replicate (rs.length + n.length - hd.length) false)).filter (fun p => p.2) = [] := by
    rw [List.filter_eq_nil_iff]
    intro p hp
    have := (List.mem_replicate.mp (List.of_mem_zip hp).2).2
    rw [this]
    decide
  rw [this, List.map_nil, List.append_nil]
theorem RInvH.grow {cs : List (List Int)} {fg : List Bool} {rs rs1 : List TRow} {hd : List Bool} (h : RInvH cs fg rs hd) (hl : hd.length = rs.length) (g : Grow cs fg rs rs1) (ga : ∀ (j : Nat) (r : TRow), rs.length ≤ j → rs1[j]? = some r → GRow cs fg (rs1.take j) r) : RInvH cs fg rs1 (hdG hd rs1.length) := by
  intro i l r e hb
  rw [hdG_get] at hb
  by_cases hi : i < rs.length
  · obtain ⟨n, rfl⟩ := g.pre
    rw [List.getElem?_append_left hi] at e
    obtain ⟨m, c, e1, e2, e3, e4, e5⟩ := h i l r e hb
    exact ⟨m, c, e1, e2, e3, e4, fun y hy ne => by rw [List.take_append_of_le_length (by omega)]; exact e5 y hy ne⟩
  · obtain ⟨m, c, e1, e2, e3, e4, _, _, e5⟩ := ga i (l, r) (by omega) e
    exact ⟨m, c, e1, e2, e3, e4, e5⟩
theorem RInvH.take {cs : List (List Int)} {fg : List Bool} {rs : List TRow} {hd : List Bool} (h : RInvH cs fg rs hd) (n : Nat) : RInvH cs fg (rs.take n) (hd.take n) := by
  intro i l r e hb
  rw [List.getElem?_take] at e
  split at e
  · rename_i hi
    rw [List.getD_eq_getElem?_getD, List.getElem?_take, if_pos hi, ← List.getD_eq_getElem?_getD] at hb
    obtain ⟨m, c, e1, e2, e3, e4, e5⟩ := h i l r e hb
    exact ⟨m, c, e1, e2, e3, e4, fun y hy ne => by rw [List.take_take, Nat.min_eq_left (by omega)]; exact e5 y hy ne⟩
  · cases e
theorem RInvH.hand {cs : List (List Int)} {fg : List Bool} {rs : List TRow} {hd : List Bool} (h : RInvH cs fg rs hd) (hl : hd.length = rs.length) (r0 : TRow) : RInvH cs fg (rs ++ [r0]) (hd ++ [true]) := by
  intro i l r e hb
  by_cases hi : i < rs.length
  · rw [List.getElem?_append_left hi] at e
    rw [List.getD_eq_getElem?_getD, List.getElem?_append_left (by omega), ← List.getD_eq_getElem?_getD] at hb
    obtain ⟨m, c, e1, e2, e3, e4, e5⟩ := h i l r e hb
    exact ⟨m, c, e1, e2, e3, e4, fun y hy ne => by rw [List.take_append_of_le_length (by omega)]; exact e5 y hy ne⟩
  · have h2 := (List.getElem?_eq_some_iff.mp e).1
    rw [List.length_append, List.length_singleton] at h2
    obtain rfl : i = rs.length := by omega
    rw [List.getD_eq_getElem?_getD, List.getElem?_append_right (by omega), hl, Nat.sub_self] at hb
    cases hb
theorem RInvH.put {cs : List (List Int)} {fg : List Bool} {rs : List TRow} {hd : List Bool} (h : RInvH cs fg rs hd) (c0 : List Int) : RInvH (cs ++ [c0]) (fg ++ [false]) rs hd := by
  intro i l k e hb
  obtain ⟨m, c, e1, e2, e3, e4, e5⟩ := h i l k e hb
  exact ⟨m, c, e1, by rw [List.getElem?_append_left (List.getElem?_eq_some_iff.mp e2).1]; exact e2, by rw [WA.getD_snoc]; exact e3, e4, e5⟩
theorem RInvH.forget {cs : List (List Int)} {fg : List Bool} {rs : List TRow} {hd : List Bool} (h : RInvH cs fg rs hd) {n : Nat} (hn : n < fg.length) (hr : ∀ r ∈ rs, r.2 ≠ some (n : Int)) : RInvH cs (fg.set n true) rs hd := by
  intro i l k e hb
  obtain ⟨m, c, e1, e2, e3, e4, e5⟩ := h i l k e hb
  refine ⟨m, c, e1, e2, ?_, e4, e5⟩
  rw [getD_set hn, if_neg (fun z => hr _ (List.mem_of_getElem? e) (by rw [e1, z]))]
  exact e3
theorem der_rowsH {cs : List (List Int)} {fg : List Bool} (hl : fg.length = cs.length) {rs : List TRow} {hd : List Bool} (h : RInvH cs fg rs hd) : ∀ n, n ≤ rs.length → ∀ l ∈ lits (rs.take n), UP.Der (UP.liv cs fg) (hands rs hd) l := by
  intro n
  induction n with
  | zero => intro _ l hl; rw [List.take_zero] at hl; cases hl
  | succ n ih =>
    intro hn l hl2
    have hr : rs[n]? = some rs[n] := List.getElem?_eq_getElem (by omega)
    rw [List.take_add_one, hr] at hl2
    have hl2 : l ∈ lits (rs.take n ++ [rs[n]]) := hl2
    rw [lits_snoc] at hl2
    rcases List.mem_append.mp hl2 with hl2 | hl2
    · exact ih (by omega) l hl2
    · obtain rfl := List.mem_singleton.mp hl2
      generalize rs[n] = r at hr
      obtain ⟨l, k⟩ := r
      cases hb : hd.getD n false with
      | true => exact .base (mem_hands hr hb)
      | false =>
        obtain ⟨m, c, _, e2, e3, e4, e5⟩ := h n l k hr hb
        exact .step ((UP.liv_mem hl).mpr ⟨m, e2, e3⟩) e4 fun y hy hne => ih (by omega) _ (e5 y hy hne)
theorem der_allH {cs : List (List Int)} {fg : List Bool} (hl : fg.length = cs.length) {rs : List TRow} {hd : List Bool} (h : RInvH cs fg rs hd) {l : Int} (hm : l ∈ lits rs) : UP.Der (UP.liv cs fg) (hands rs hd) l :=
  der_rowsH hl h rs.length (Nat.le_refl _) l (by rw [List.take_length]; exact hm)
/-- propagated: the rows are just what follows -/
theorem WInv.derH {x : WS} {hd : List Bool} (inv : WInv x x.rs.length) (fr : x.D.fr = []) (rr : RInvH x.cst x.D.fg x.rs hd) : (∀ l, l ∈ lits x.rs ↔ UP.Der (UP.liv x.cst x.D.fg) (hands x.rs hd) l) ∧ ∀ c ∈ UP.liv x.cst x.D.fg, ∃ l ∈ c, -l ∉ lits x.rs := by
  have hl : x.D.fg.length = x.cst.length := by rw [inv.fln]; exact (List.length_map _).symm
  have ti := inv.ti
  rw [← tl_len x.rs] at ti
  have one : ∀ c ∈ UP.liv x.cst x.D.fg, (∃ l ∈ c, -l ∉ lits x.rs) ∧ ∀ l ∈ c, -l ∉ lits x.rs → (∀ y ∈ c, -y ∉ lits x.rs → y = l) → l ∈ lits x.rs := fun c hc => by
    obtain ⟨n, e1, e2⟩ := (UP.liv_mem hl).mp hc
    have hwl : n < x.D.wp.length := by
      rw [inv.ci.wl]
      exact (List.getElem?_eq_some_iff.mp e1).1
    have o := inv.ci.one n c _ e1 (List.getElem?_eq_getElem hwl) e2
    rw [fr, show decide (n ∈ ([] : List Nat)) = false by simp, ← tl_len x.rs] at o
    have q := WA.one_left ti o fun l hl => (inv.nz ((inv.cl _ (cs_mem e1).2).2 l hl)).1
    rw [tl_lits] at q
    exact q
  refine ⟨fun l => ?_, fun c hc => (one c hc).1⟩
  refine UP.trail_iff (fun y hy => hands_sub hy) (fun y hy => der_allH hl rr hy) (fun c hc l hlc h => ?_) l
  obtain ⟨⟨l0, h1, h2⟩, h3⟩ := one c hc
  have e : l0 = l := by
    by_cases q : l0 = l
    · exact q
    · exact absurd (h l0 h1 q) h2
  subst e
  refine h3 l0 h1 h2 fun y hy hn => ?_
  by_cases q : y = l0
  · exact q
  · exact absurd (h y hy q) hn
end L

namespace L
open PySem PySem.Spec PyProof.Rows L2 Z M MR MT X2
open _root_.SX (S S_len S_cat S_inj)
/-- what holds of a seat between deeds; m bounds the clauses -/
structure SInv (z : SS) (m : Nat) : Prop where
  inv : ∃ k, WInv z.x k ∧ (z.pr = true → k = z.x.rs.length ∧ z.x.D.fr = [])
  cs : z.cs = z.x.D.cs
  so : z.so.length ≤ m ∧ z.so = z.x.D.so ∧ z.x.D.so.length = z.x.D.cs.length
  fg : z.fg = z.x.D.fg
  rs : z.rs = z.x.rs
  rr : RInvH (z.x.D.cs.map (·.2)) z.x.D.fg z.x.rs z.hd
  hdl : z.hd.length = z.rs.length
  cap : z.x.D.cs.length ≤ m ∧ z.x.D.so.length ≤ m ∧ m ≤ 900
  lk : z.lk = [] ∨ z.lk.map (fun l => (l.natAbs : Int)) = z.x.ns
theorem fresh_px {q p : Addr} {H H' : Hp} (s : PX q H H') (hq : PoolAt H q) (h : H' p = none) : H p = none := by
  cases e : H p with
  | none => rfl
  | some u =>
    by_cases z : p = q
    · subst z
      obtain ⟨o, h1, _⟩ := s.pl
      rw [h] at h1
      cases h1
    · have := s.sx p u z e
      rw [h] at this
      cases this
theorem PX.mutN {q p : Addr} {o : HO} {H H1 : Hp} (a : PX q H H1) (h : H p = none) (n : p ≠ q) : PX q H (upd H1 p o) := by
  refine ⟨a.mo.own h, ?_, fun b x nb e => ?_⟩
  · obtain ⟨u, h1, h2⟩ := a.pl
    exact ⟨u, by rw [upd_ne n.symm]; exact h1, h2⟩
  · rw [upd_ne (ne_of_none e h)]
    exact a.sx b x nb e
section
variable {P : Program} {w : World} {K : PySem.W.Frag} {mg : Str → Option Value} {base : Heap}
/-- a clause over the nodes -/
def ClOk (ns : List Int) (c : List Int) : Prop := c.Nodup ∧ (∀ l ∈ c, (l.natAbs : Int) ∈ ns) ∧ c.length ≤ 100
theorem ClOk.perm {ns c c' : List Int} (h : ClOk ns c) (p : c'.Perm c) : ClOk ns c' := ⟨p.nodup_iff.mpr h.1, fun l hl => h.2.1 l (p.mem_iff.mp hl), by rw [p.length_eq]; exact h.2.2⟩
theorem ClOk.old {z : SS} {m k : Nat} (si : SInv z m) (inv : WInv z.x k) {c : Addr × List Int} (hc : c ∈ z.x.D.cs) : ClOk z.x.ns c.2 :=
  ⟨(inv.cl c hc).1, (inv.cl c hc).2, over_len inv.nsl.1 (inv.cl c hc).1 (inv.cl c hc).2⟩
def spClause (K : PySem.W.Frag) (CT CW : Addr) (T : Tb) : Sp := fun vs H Q _ => ∃ (q : Addr) (z : SS) (m : Nat), vs = [.ref q, .ref z.Sa] ∧ PoolAt H q ∧ q ∉ z.all ∧ SOk K CT CW T H z ∧ SInv z m ∧
  ∀ a c H', PX q H H' → SqT K H' a (c.map V.int) → ClOk z.x.ns c → Q (.ref a) H'
theorem ok_clause (T : Txt K mg) {Tt : Tb} : FnOk P w K mg base CX0 2 T.f_clause T.fd_clause ["_law_pool_here", "_law_seat_here"] (spClause K T.C_Trail T.C_Watching Tt) := by
  have G_take := ok_take (P := P) (w := w) (base := base) T
  refine T.F_clause.ok sc_clause (fun vs H Q E h => ?_) (fun cdv A outer s H vs Q E hr h => ?_)
  · obtain ⟨q, z, m, rfl, _⟩ := h
    rfl
  · obtain ⟨q, z, m, rfl, hp, hq, so, si, h⟩ := h
    obtain ⟨k0, inv, _⟩ := si.inv
    have hsa := so.sa
    have hac := so.ac
    have hal := so.al
    have hs3 : atI z.line 3 = some (.ref z.Ac) := rfl
    have hs8 : atI z.line 8 = some (.ref z.Al) := rfl
    have hs2 : atI z.line 2 = some (.ref z.An) := rfl
    have hrl : (refs z.cs).length = z.x.D.cs.length := by unfold refs; rw [List.length_map, si.cs]
    have cap := si.cap
    refine ⟨_, (pss_cons (ps_set (i := 2) sc_clause.nd rfl (.inl rfl) (pe_callB call_len_seq (by rfl) T.m_len (by decide +kernel) (pa_cons (pe_ix ix_list (pv 1) pe_int (fun _ _ => rfl)) pa_nil)))
 (pss_cons (ps_set (i := 3) sc_clause.nd rfl (.inl rfl) (pe_ix ix_list (pv 1) pe_int (fun _ _ => rfl)))
 (pss_cons (ps_if (pt_cmpR op_lt (pe_op op_add (pv 2) pe_int) (pe_callB call_len_seq (by rfl) T.m_len (by decide +kernel) (pa_cons (pv 3) pa_nil)) (nomark _)) (pss_one (ps_ret (pe_callTy call_tuple_of (by rfl) T.m_tuple (by decide +kernel) (pa_cons (LK.pe_sortedAbsQ hr.units (by rfl) T.m_sorted (by rfl) T.m_abs (pe_lst (pa_cons (pe_un un_neg (pe_ix ix_list (pv 3) (pv 2) (fun _ _ => rfl))) (pa_cons (pe_ix ix_list (pv 3) (pe_op op_add (pv 2) pe_int) (fun _ _ => rfl)) pa_nil)))) pa_nil)))) pss_nil)
 (pss_cons (ps_if (PW.pt (pw_and (pt_cmpR op_gt (pv 2) pe_int (nomark _)) (pw_and1 (pt_cmpR op_eq (pe_call G_take (hr.mono (by first | decide | omega)) (by rfl) T.g_take T.F_take.kp T.b_take .nil pass0 (pa_cons (pv 0) (pa_cons pe_int pa_nil))) pe_int (nomark _))))) (pss_one (ps_ret (pe_ix ix_list (pe_ix ix_list (pv 1) pe_int (fun _ _ => rfl)) (pe_call G_take (hr.mono (by first | decide | omega)) (by rfl) T.g_take T.F_take.kp T.b_take .nil pass0 (pa_cons (pv 0) (pa_cons (pv 2) pa_nil))) (fun _ _ => rfl)))) pss_nil)
 (pss_cons (ps_set (i := 4) sc_clause.nd rfl (.inl rfl) (pe_ix ix_tup (pe_tup (pa_cons pe_int (pa_cons pe_int (pa_cons pe_int (pa_cons pe_int (pa_cons pe_int (pa_cons pe_int (pa_cons pe_int (pa_cons pe_int (pa_cons pe_int (pa_cons pe_int (pa_cons pe_int (pa_cons pe_int (pa_cons pe_int (pa_cons pe_int (pa_cons pe_int (pa_cons pe_int pa_nil))))))))))))))))) (pe_call G_take (hr.mono (by first | decide | omega)) (by rfl) T.g_take T.F_take.kp T.b_take .nil pass0 (pa_cons (pv 0) (pa_cons pe_int pa_nil))) (fun _ _ => rfl)))
 (pss_cons (ps_if (pt_cmpR op_gt (pe_callB call_len_seq (by rfl) T.m_len (by decide +kernel) (pa_cons (pe_ix ix_list (pv 1) pe_int (fun _ _ => rfl)) pa_nil)) pe_int (nomark _)) (pss_one (ps_set (i := 4) sc_clause.nd rfl (.inl rfl) (pe_op op_add (pv 4) pe_int))) pss_nil)
 (pss_cons (ps_if (pt_cmpR op_eq (pe_call G_take (hr.mono (by first | decide | omega)) (by rfl) T.g_take T.F_take.kp T.b_take .nil pass0 (pa_cons (pv 0) (pa_cons pe_int pa_nil))) pe_int (nomark _)) (pss_one (ps_set (i := 4) sc_clause.nd rfl (.inl rfl) pe_int)) pss_nil)
 (pss_cons (ps_set (i := 5) sc_clause.nd rfl (.inl rfl) (pe_callTy call_list_of (by rfl) T.m_list (by decide +kernel) (pa_cons (pe_ix ix_list (pv 1) pe_int (fun _ _ => rfl)) pa_nil)))
 (pss_cons (ps_set (i := 6) sc_clause.nd rfl (.inl rfl) (pe_lst pa_nil))
 (pss_cons (ps_for PassesOwn.never rfl (pi_range1 (by rfl) T.m_range (pa_cons (pe_callB (call_min2 rfl) (by rfl) T.m_min (by decide +kernel) (pa_cons (pv 4) (pa_cons (pe_callB call_len_seq (by rfl) T.m_len (by decide +kernel) (pa_cons (pv 5) pa_nil)) pa_nil))) pa_nil)) (pg_name (i := 7) sc_clause.nd rfl (.inl rfl)) (pss_cons (ps_set (i := 8) sc_clause.nd rfl (.inl rfl) (pe_call G_take (hr.mono (by first | decide | omega)) (by rfl) T.g_take T.F_take.kp T.b_take .nil pass0 (pa_cons (pv 0) (pa_cons (pe_callB call_len_seq (by rfl) T.m_len (by decide +kernel) (pa_cons (pv 5) pa_nil)) pa_nil))))
 (pss_cons (ps_expr (pe_bm PySem.F.plainAttrs_list PySem.F.slot_list_append PySem.F.type_list_append mt_append (pv 6) (pa_cons (pe_op op_sub (pe_ix ix_list (pv 5) (pv 8) (fun _ _ => rfl)) (pe_op op_mul (pe_op op_mul pe_int (pe_ix ix_list (pv 5) (pv 8) (fun _ _ => rfl))) (pe_call G_take (hr.mono (by first | decide | omega)) (by rfl) T.g_take T.F_take.kp T.b_take .nil pass0 (pa_cons (pv 0) (pa_cons pe_int pa_nil))))) pa_nil)))
 (pss_one (ps_set (i := 5) sc_clause.nd rfl (.inl rfl) (pe_op op_cat (pe_slice sl_list (pv 5) po_none (po_some (pv 8))) (pe_slice sl_list (pv 5) (po_some (pe_op op_add (pv 8) pe_int)) po_none)))))))
 (pss_one (ps_ret (pe_callTy call_tuple_of (by rfl) T.m_tuple (by decide +kernel) (pa_cons (LK.pe_sortedAbsQ hr.units (by rfl) T.m_sorted (by rfl) T.m_abs (pv 6)) pa_nil)))))))))))))), ?_⟩
    refine Z.w_start (σ' := [some (.ref q), some (.ref z.Sa), none, none, none, none, none, none, none]) rfl ?_
    walk_at "w"
    rw [hrl, List.length_map]
    by_cases h1 : z.x.D.cs.length + 1 < z.lk.length
    · rw [if_pos (by simp; omega)]
      have e1 : z.lk[z.x.D.cs.length]? = some z.lk[z.x.D.cs.length] := List.getElem?_eq_getElem (by omega)
      have e2 : z.lk[z.x.D.cs.length + 1]? = some z.lk[z.x.D.cs.length + 1] := List.getElem?_eq_getElem h1
      generalize z.lk[z.x.D.cs.length] = l1 at e1
      generalize z.lk[z.x.D.cs.length + 1] = l2 at e2
      have a1 : atI (z.lk.map V.int) (z.x.D.cs.length : Int) = some (.int l1) := atI_nat (by rw [List.getElem?_map, e1]; rfl)
      have a2 : atI (z.lk.map V.int) ((z.x.D.cs.length : Int) + 1) = some (.int l2) := by
        rw [show (z.x.D.cs.length : Int) + 1 = ((z.x.D.cs.length + 1 : Nat) : Int) by omega]
        exact atI_nat (by rw [List.getElem?_map, e2]; rfl)
      walk_at "w"
      refine (?_ : tCons _ _ _ _ _)
      walk_at "w"
      rename_i p1 f1
      have hlk : z.lk.map (fun l => (l.natAbs : Int)) = z.x.ns := by
        rcases si.lk with e | e
        · rw [e] at h1
          simp at h1
        · exact e
      have b1 : z.x.ns[z.x.D.cs.length]? = some (l1.natAbs : Int) := by rw [← hlk, List.getElem?_map, e1]; rfl
      have b2 : z.x.ns[z.x.D.cs.length + 1]? = some (l2.natAbs : Int) := by rw [← hlk, List.getElem?_map, e2]; rfl
      have ne : l1.natAbs ≠ l2.natAbs := fun z0 => by
        rw [z0] at b1
        have := (List.getElem?_inj (List.getElem?_eq_some_iff.mp b1).1 inv.nsl.2).mp (b1.trans b2.symm)
        omega
      have co : ClOk z.x.ns [-l1, l2] := by
        refine ⟨?_, fun l hl => ?_, show 2 ≤ 100 by decide⟩
        · simp
          omega
        simp only [List.mem_cons, List.not_mem_nil, or_false] at hl
        rcases hl with rfl | rfl
        · rw [Int.natAbs_neg]; exact List.mem_of_getElem? b1
        · exact List.mem_of_getElem? b2
      refine ⟨p1, [-l1, l2], rfl, .inl (.inl (.inl upd_same)), (show 2 ≤ 1000 by decide), fun p2 f2 => ?_⟩
      walk_at "w"
      refine ⟨p2, _, rfl, .inl ⟨.inl (.inl upd_same), fun p3 f3 => ?_⟩⟩
      exact h p3 _ _ ((((PX.refl hp).new f1).new f2).new f3) (.inl (.inl upd_same)) (co.perm (List.mergeSort_perm _ _))
    · rw [if_neg (by simp; omega)]
      walk_at "w"
      refine' (fun (tail : ∀ H1, PX q H H1 → (_ : Hp → Prop) H1) => _) _
      rotate_left
      by_cases h2 : 0 < z.x.D.cs.length
      · rw [decide_eq_true (show (0 : Int) < z.x.D.cs.length by omega), if_pos rfl]
        walk_at "w"
        rename_i r H1 x1 r0 r1
        by_cases h3 : r = 0
        · rw [decide_eq_true h3, if_pos rfl]
          have so1 := so.px hp hq x1
          have hsa1 := so1.sa
          have hac1 := so1.ac
          have pl1 := x1.pl
          walk_at "w"
          rename_i r2 H2 x2 r20 r21
          obtain ⟨r2, rfl⟩ := Int.eq_ofNat_of_zero_le r20
          have so2 := so1.px pl1 hq x2
          have hac2 := so2.ac
          have hr2 : r2 < z.x.D.cs.length := by omega
          have e1 : z.x.D.cs[r2]? = some z.x.D.cs[r2] := List.getElem?_eq_getElem hr2
          generalize z.x.D.cs[r2] = cc at e1
          have a1 : atI (refs z.cs) (r2 : Int) = some (.ref cc.1) := atI_nat (by unfold refs; rw [List.getElem?_map, si.cs, e1]; rfl)
          walk_at "w"
          exact h cc.1 cc.2 _ (x1.trans x2) (so2.ct cc (by rw [si.cs]; exact List.mem_of_getElem? e1)) (.old si inv (List.mem_of_getElem? e1))
        · rw [decide_eq_false h3, if_neg (by decide)]
          exact tail _ x1
      · rw [decide_eq_false (show ¬ (0 : Int) < z.x.D.cs.length by omega), if_neg (by decide), if_neg (by decide)]
        exact tail _ (PX.refl hp)
      intro H1 x1
      have pl1 := x1.pl
      have so1 := so.px hp hq x1
      walk_at "w"
      rename_i t0 ft r H2 x2 r0 r1
      obtain ⟨cnt0, za, zm⟩ := pick (ns := [2, 3, 2, 1, 3, 2, 4, 3, 2, 2, 3, 1, 4, 3, 2, 3]) r0 r1
      have z2 : 1 ≤ cnt0 ∧ cnt0 ≤ 4 := by
        simp only [List.mem_cons, List.not_mem_nil, or_false] at zm
        omega
      refine Z.w_ixTH (x2.mo _ _ (fun l e => by cases e) upd_same) za ?_
      have y2 : PX q H H2 := (x1.new ft).trans x2
      have so2 := so.px hp hq y2
      have hsa2 := so2.sa
      have han2 := so2.an
      have pl2 := y2.pl
      have nl := inv.nsl.1
      have n20 := nl
      repeat' (first | with_reducible refine seqIf (fun σ' H' => ∃ c1 : Int, σ' = [some (.ref q), some (.ref z.Sa), some (.int (z.x.D.cs.length : Int)), some (.ref z.Al), some (.int c1), none, none, none, none] ∧ H' = H2 ∧ 0 ≤ c1 ∧ c1 ≤ 6) (fun Rk kk => ?_) ?_ | walk_at "w1")
      · by_cases h7 : ¬ 7 < z.x.ns.length
        · rw [if_neg (by simp; omega)]
          walk_at "w"
          exact kk _ _ ⟨cnt0, rfl, rfl, by omega, by omega⟩
        · rw [if_pos (by simp; omega)]
          walk_at "w"
          exact kk _ _ ⟨cnt0 + 2, rfl, rfl, by omega, by omega⟩
      rintro σ' _ ⟨cnt1, rfl, rfl, c10, c16⟩
      repeat' (first | with_reducible refine seqIf (fun σ' H' => ∃ c1 : Int, σ' = [some (.ref q), some (.ref z.Sa), some (.int (z.x.D.cs.length : Int)), some (.ref z.Al), some (.int c1), none, none, none, none] ∧ PX q H H' ∧ 0 ≤ c1 ∧ c1 ≤ 6) (fun Rk kk => ?_) ?_ | walk_at "w1")
      · rename_i r9 H9 x9 r90 r91
        by_cases h9 : r9 = 0
        · rw [decide_eq_true h9, if_pos rfl]
          walk_at "w"
          exact kk _ _ ⟨0, rfl, y2.trans x9, by omega, by omega⟩
        · rw [decide_eq_false h9, if_neg (by decide)]
          walk_at "w"
          exact kk _ _ ⟨cnt1, rfl, y2.trans x9, by omega, by omega⟩
      clear y2 pl2 hsa2 han2 so2
      rintro σ' H2 ⟨c', rfl, y2, c1, c2⟩
      have so2 := so.px hp hq y2
      have hsa2 := so2.sa
      have han2 := so2.an
      have pl2 := y2.pl
      walk_at "w"
      intro la fla
      walk_at "w"
      rename_i ln fln
      have nlq : ln ≠ q := fun e => by
        subst e
        obtain ⟨o, h1, _⟩ := (y2.new fla (o := .lst (z.x.ns.map V.int))).pl
        rw [h1] at fln
        cases fln
      have flnH : H ln = none := fresh_px (y2.new fla) hp fln
      have y3 := (y2.new fla (o := .lst (z.x.ns.map V.int))).new fln (o := .lst [])
      have ela : (upd (upd H2 la (.lst (z.x.ns.map V.int))) ln (.lst [])) la = some (.lst (z.x.ns.map V.int)) := upd_of fln upd_same
      have eln : (upd (upd H2 la (.lst (z.x.ns.map V.int))) ln (.lst [])) ln = some (.lst []) := upd_same
      generalize upd (upd H2 la (.lst (z.x.ns.map V.int))) ln (.lst []) = H3 at y3 ela eln ⊢
      have hmin : 0 ≤ (if ((z.x.ns.map V.int).length : Int) < c' then ((z.x.ns.map V.int).length : Int) else c') := by split <;> omega
      walk_at "w"
      have nl2 : (z.x.ns.map V.int).length = z.x.ns.length := List.length_map _
      refine ⟨by omega, by split <;> omega, ?_⟩
      generalize hM : (if ((z.x.ns.map V.int).length : Int) < c' then ((z.x.ns.map V.int).length : Int) else c') = M at hmin ⊢
      have hM2 : M ≤ z.x.ns.length := by
        rw [← hM]
        split <;> omega
      refine for_range (fun i σ H' => ∃ (x7 x8 : Option V) (la : Addr) (ls ms : List Int), σ = [some (.ref q), some (.ref z.Sa), some (.int (z.x.D.cs.length : Int)), some (.ref z.Al), some (.int c'), some (.ref la), some (.ref ln), x7, x8] ∧ PX q H H' ∧ la ≠ ln ∧ la ≠ q ∧ H' la = some (.lst (ls.map V.int)) ∧ H' ln = some (.lst (ms.map V.int)) ∧ ms.length = i ∧ (ls ++ ms.map fun l => (l.natAbs : Int)).Perm z.x.ns) ?_ ?_ ?_
      · refine ⟨_, _, la, z.x.ns, [], rfl, y3, ?_, ?_, ela, eln, rfl, by simp⟩
        · intro e
          rw [e, upd_same] at fln
          cases fln
        · intro e
          obtain ⟨o, h1, _⟩ := y2.pl
          rw [← e, fla] at h1
          cases h1
      · rintro i σ H' hi ⟨x7, x8, la, ls, ms, rfl, px, nll, nlq2, e5, e6, hms, perm⟩
        have hpl := perm.length_eq
        rw [List.length_append, List.length_map] at hpl
        have hls : ls.length = z.x.ns.length - i := by omega
        have pl := px.pl
        have lsl : (ls.map V.int).length = ls.length := List.length_map _
        walk_at "w"
        rename_i r2 H4 px4 r20 r21
        obtain ⟨at_, rfl⟩ := Int.eq_ofNat_of_zero_le r20
        have e54 := px4.sx _ _ nlq2 e5
        have e64 := px4.sx _ _ nlq e6
        have hal : at_ < ls.length := by omega
        have hx : ls[at_]? = some ls[at_] := List.getElem?_eq_getElem hal
        generalize ls[at_] = x at hx
        have hxn : x ∈ z.x.ns := perm.mem_iff.mp (List.mem_append_left _ (List.mem_of_getElem? hx))
        have hxb := inv.nsb x hxn
        have hat : atI (ls.map V.int) (at_ : Int) = some (.int x) := atI_nat (by rw [List.getElem?_map, hx]; rfl)
        have pl4 := px4.pl
        refine Z.w_bm ?_
        walk_at "w"
        refine ⟨.inl ⟨rfl, _, .inl (.inl e64)⟩, ?_⟩
        walk_at "w"
        rename_i r3 H5 px5 r30 r31
        have e65 := px5.sx _ _ nlq e64
        have e55 := px5.sx _ _ nlq2 e54
        refine ⟨ln, _, _, rfl, rfl, e65, ?_, ?_⟩
        · rw [List.length_map]
          exact Nat.lt_of_le_of_lt (show ms.length ≤ 1000 by omega) (by decide)
        have hya : ((x - 2 * x * r3).natAbs : Int) = x := by
          rcases (show r3 = 0 ∨ r3 = 1 by omega) with rfl | rfl <;> omega
        generalize x - 2 * x * r3 = yy at hya ⊢
        have em : ms.map V.int ++ [V.int yy] = (ms ++ [yy]).map V.int := by rw [List.map_append]; rfl
        rw [em]
        have px6 := PX.mutN (((px.trans px4).trans px5)) flnH nlq (o := .lst ((ms ++ [yy]).map V.int))
        have e56 : upd H5 ln (.lst ((ms ++ [yy]).map V.int)) la = some (.lst (ls.map V.int)) := by rw [upd_ne nll]; exact e55
        have e66 : upd H5 ln (.lst ((ms ++ [yy]).map V.int)) ln = some (.lst ((ms ++ [yy]).map V.int)) := upd_same
        generalize upd H5 ln (.lst ((ms ++ [yy]).map V.int)) = H6 at px6 e56 e66 ⊢
        walk_at "w"
        refine w_slTo (.inl (.inl e56)) (by rw [List.length_map]; omega) fun p1 f1 => ?_
        have e57 : upd H6 p1 (.lst ((ls.map V.int).take at_)) la = some (.lst (ls.map V.int)) := upd_of f1 e56
        walk_at "w"
        rw [show (at_ : Int) + 1 = ((at_ + 1 : Nat) : Int) by omega]
        refine w_slFrom (.inl (.inl e57)) (by rw [List.length_map]; omega) fun p2 f2 => ?_
        refine w_cat (upd_of f2 upd_same) upd_same (by rw [List.length_take, List.length_drop, List.length_map]; omega) fun p3 f3 => ?_
        have el : (ls.map V.int).take at_ ++ (ls.map V.int).drop (at_ + 1) = (ls.take at_ ++ ls.drop (at_ + 1)).map V.int := by rw [List.map_append, List.map_take, List.map_drop]
        rw [el]
        walk_at "w"
        have n3 : p3 ≠ ln := fun e => by
          have := (same_of (same_of (Same.refl H6) f1) f2 (o := .lst ((ls.map V.int).drop (at_ + 1)))) _ _ e66
          rw [← e, f3] at this
          cases this
        refine ⟨_, _, p3, ls.take at_ ++ ls.drop (at_ + 1), ms ++ [yy], rfl, ((px6.new f1).new f2).new f3, n3, ?_, upd_same, upd_of f3 (upd_of f2 (upd_of f1 e66)), by rw [List.length_append, hms]; rfl, ?_⟩
        · intro e
          obtain ⟨o, h1, _⟩ := ((px6.new f1 (o := .lst ((ls.map V.int).take at_))).new f2 (o := .lst ((ls.map V.int).drop (at_ + 1)))).pl
          rw [← e, f3] at h1
          cases h1
        · refine List.Perm.trans ?_ perm
          rw [List.map_append]
          show ((ls.take at_ ++ ls.drop (at_ + 1)) ++ ((ms.map fun l => (l.natAbs : Int)) ++ [(yy.natAbs : Int)])).Perm _
          rw [hya]
          have e1 : ls = ls.take at_ ++ x :: ls.drop (at_ + 1) := by
            have := List.take_append_drop at_ ls
            rw [List.drop_eq_getElem_cons hal] at this
            rw [(List.getElem?_eq_some_iff.mp hx).2] at this
            exact this.symm
          have e2 : (ls ++ ms.map fun l => (l.natAbs : Int)) = (ls.take at_ ++ x :: ls.drop (at_ + 1)) ++ ms.map fun l => (l.natAbs : Int) := by rw [← e1]
          rw [e2]
          generalize (ms.map fun l => (l.natAbs : Int)) = mm
          rw [List.append_assoc, List.append_assoc, List.cons_append]
          refine List.Perm.append_left _ ?_
          rw [← List.append_assoc]
          exact List.perm_append_singleton _ _
      · rintro σ H' ⟨x7, x8, la, ls, ms, rfl, px, nll, nlq2, e5, e6, hms, perm⟩
        have hms2 : (ms.map fun l => (l.natAbs : Int)).Nodup := by
          have := perm.nodup_iff.mpr inv.nsl.2
          exact (List.nodup_append.mp this).2.1
        have co : ClOk z.x.ns ms := by
          refine ⟨?_, fun l hl => perm.mem_iff.mp (List.mem_append_right _ (List.mem_map.mpr ⟨l, hl, rfl⟩)), by omega⟩
          · rw [List.nodup_iff_pairwise_ne, List.pairwise_map] at hms2
            rw [List.nodup_iff_pairwise_ne]
            exact hms2.imp fun h e => h (by rw [e])
        walk_at "w"
        refine (?_ : tCons _ _ _ _ _)
        walk_at "w"
        refine ⟨ln, ms, rfl, .inl (.inl (.inl e6)), by omega, fun p2 f2 => ?_⟩
        walk_at "w"
        refine ⟨p2, _, rfl, .inl ⟨.inl (.inl upd_same), fun p3 f3 => ?_⟩⟩
        exact h p3 _ _ ((px.new f2).new f3) (.inl (.inl upd_same)) (co.perm (List.mergeSort_perm _ _))
end
end L

namespace BXE
open PySem PySem.Spec PyProof.Rows L2
/-- fewer objects on the ground -/
theorem ff_less {h B B' : Heap} (k : ∀ b, B.get? b = none → B'.get? b = none) : ∀ {l : List Env}, h.FunFrames B l → h.FunFrames B' l
  | [], _ => trivial
  | e :: l, z => by
    obtain ⟨z1, ⟨L, o, z2, z3, z4⟩, z5⟩ := z
    exact ⟨z1, ⟨L, o, z2, k L z3, z4⟩, ff_less k z5⟩
theorem hide_none {B : Heap} {C : Addr} : (PySem.W.hideAll B [C]).get? C = none := PySem.W.hideAll_none [C] (by simp)
theorem hide_get {B : Heap} {C b : Addr} {o : Obj} (n : b ≠ C) (e : B.get? b = some o) : (PySem.W.hideAll B [C]).get? b = some o := PySem.W.hideAll_get [C] e (by simpa using n)
theorem hide_of {B : Heap} {C b : Addr} {o : Obj} (e : (PySem.W.hideAll B [C]).get? b = some o) : B.get? b = some o ∧ b ≠ C := by
  refine ⟨PySem.W.of_hideAll [C] e, fun z => ?_⟩
  rw [z, hide_none] at e
  cases e
theorem hide_nn {B : Heap} {C b : Addr} (e : B.get? b = none) : (PySem.W.hideAll B [C]).get? b = none := by
  cases q : (PySem.W.hideAll B [C]).get? b with
  | none => rfl
  | some o =>
    have := (hide_of q).1
    rw [e] at this
    cases this
/-- an exception out of a call in a comprehension's block: the block's names are let go, it flies on in the def -/
theorem fails_of_call {X : Cx} {pins : List (Addr × Obj)} {σ : L2.St} {H : Hp} {s s' : Shared} {W : WX} {E : XK} {cenv : Env} {C : Addr} {m : Str → Option Value} {u : Value}
    (hs : X.stack = X.env :: X.outer) (hf : X.env.frame = some X.env.locals) (tk : L2N.Takes X W) (hW : ∀ cls d σ H, E cls d H → W cls d σ H)
    (I : Inv X pins σ H s) (hc : cenv.frame = X.env.frame) (hC : cenv.locals = C) (hn : s.heap.Ns C m) (fC : FpOk X pins H C) (c : L2N.CX X.prog X.w X.stack H s E u s') :
    notedBy (model X.prog X.w) X.A cenv (CompFails (model X.prog X.w) X.A X.xe cenv) u s' := by
  obtain ⟨a, B, H', cls, d, rfl, fl, hok, ub, na, os, ag, hE⟩ := c
  have hfr : X.A.frames = some (X.env :: X.outer) := by rw [I.ok.frames, hs]
  have hCF : C ∉ frs X.stack := fun z => by
    rcases List.mem_cons.mp (I.stkSub C z) with z | z
    · exact fC.2.1 z
    · exact fC.2.2.1 z
  obtain ⟨oC, es, ep, ho, hd, hr⟩ := hn
  have hCB := ub.keep C oC ho fC.1 hCF
  have hCs := fl.1 C oC hCB
  have HC' : H' C = none := ub.free C oC ho fC.1
  rw [hs] at fl
  show wpAny (model X.prog X.w) X.A (noteFrame (.ref a) cenv) _ _ s'
  rw [noteFrame_env _ hc]
  refine PXN.looks_onZ L2N.Zn.steady hfr hf fl fun h1 hh1 up1 => ?_
  have hn1 : h1.Ns C m := (show s'.heap.Ns C m from ⟨oC, es, ep, hCs, hd, hr⟩).upToSlots up1
  rw [← hC] at hn1
  refine ⟨m, hn1, fun h2 m2 hn2 sb2 => ?_⟩
  rw [hC] at hn1 hn2 sb2
  obtain ⟨st1, an1, ff1, oe, vs, Tr, oT, ts, he, hz, hdv, hv1, hnT, hTe, hT, hdT, h3⟩ := hh1
  have neC : ∀ {b : Addr} {o : Obj} {vs : Array Value}, h1.get? b = some o → o.data = .fields vs → b ≠ C := fun {b o vs} e dd z => by
    obtain ⟨o2, es2, ep2, ho2, hd2, _⟩ := hn1
    rw [z, ho2] at e
    cases e
    rw [hd2] at dd
    cases dd
  have aC := neC he hdv
  have TC := neC hT hdT
  have held : HandSPX.HeldZ (PySem.W.hideAll B [C]) (X.env :: X.outer) a (L2N.Zn cls d) X.env.locals h2 := by
    refine ⟨fun b o e => ?_, hide_nn an1, ff_less (fun b => hide_nn) (Heap.FunFrames.sameBut sb2 hn2 ff1), oe, vs, Tr, oT, ts, (sb2.2 a aC).trans he, hz, hdv, hv1, hide_nn hnT, hTe, (sb2.2 Tr TC).trans hT, hdT, h3⟩
    obtain ⟨e1, e2⟩ := hide_of e
    exact (sb2.2 b e2).trans (st1 b o e1)
  unfold PySem.passOn
  refine wpAny_bind (wpAny_field ((sb2.2 a aC).trans he) hdv hv1 ?_)
  rw [if_neg (show ¬ ((Value.ref Tr == Value.none) = true) from by simp), hc, hf]
  have fin : wpAny (model X.prog X.w) X.A (setFlight (.ref a) (some X.env.locals)) (fun _ s4 => wpAny (model X.prog X.w) X.A (throw (.ref a) : Sem Value) (fun _ _ => False) X.xe s4) X.xe { s' with heap := h2 } := by
    refine HandSPX.setFlight_onZ held fun h5 held5 up5 => wpAny_throw (tk _ _ ?_)
    have st5 := held5.1
    obtain ⟨G, g1, g2⟩ := L2.restrict h5 fun b => ((PySem.W.hideAll B [C]).get? b).isSome || decide (b ∈ frs X.stack)
    have gB : ∀ b o, (PySem.W.hideAll B [C]).get? b = some o → G.get? b = some o := fun b o e => (g1 b (by simp [e])).trans (st5 b o e)
    have gF : ∀ b, b ∈ frs X.stack → G.get? b = h5.get? b := fun b hb => g1 b (by simp [hb])
    have gO : ∀ b o, G.get? b = some o → h5.get? b = some o ∧ (((PySem.W.hideAll B [C]).get? b).isSome = true ∨ b ∈ frs X.stack) := fun b o e => by
      cases q : (((PySem.W.hideAll B [C]).get? b).isSome || decide (b ∈ frs X.stack)) with
      | false =>
        have := g2 b q
        rw [e] at this
        cases this
      | true => exact ⟨(g1 b q).symm.trans e, by simpa using q⟩
    have slot5 : ∀ b o, s.heap.get? b = some o → b ∈ frs X.stack → ∃ sl, h5.get? b = some { o with slots := sl } := fun b o e hb => by
      obtain ⟨_, o2, e2, nf⟩ := I.stack.mem hb
      rw [e] at e2
      cases e2
      have bC : b ≠ C := fun z => hCF (z ▸ hb)
      obtain ⟨_, q1⟩ := ub.slot b o e hb
      obtain ⟨_, q2⟩ := up1 b _ q1 nf
      obtain ⟨_, q3⟩ := up5 b _ ((sb2.2 b bC).trans q2) nf
      exact ⟨_, q3⟩
    have un : Un (frs X.stack) [C] H H' s.heap G := by
      refine ⟨fun b o e n hb hx => gB b o (hide_get (by simpa using hx) (ub.keep b o e n hb)), fun b o e n hb hx => ?_, fun b o e n _ => ub.free b o e n, fun b o e hx => ?_, ub.tups, ub.frzs, ub.tbls⟩
      · obtain ⟨sl, q⟩ := slot5 b o e hb
        exact ⟨sl, (gF b hb).trans q⟩
      · by_cases hb : b ∈ frs X.stack
        · obtain ⟨sl, q⟩ := slot5 b o e hb
          exact ⟨_, (gF b hb).trans q⟩
        · obtain ⟨o2, q⟩ := ub.there b o e hb
          exact ⟨o2, gB b o2 (hide_get (by simpa using hx) q)⟩
    have hokG : HOk X.prog X.w H' G := fun b o q => (hok b o q).stay (fun b2 u2 hb2 e2 => gB b2 u2 (hide_get (fun z => by
      rcases hb2 with hb2 | hb2
      · rw [← hb2, z, HC'] at q
        cases q
      · rw [z, HC'] at hb2
        cases hb2) e2)) (fun _ r => r) fun _ _ r => r
    have hch : ∀ b ∈ [C], (b ∈ X.ex ∨ X.s_0.heap.objs.size ≤ b) ∧ b ≠ X.env.locals ∧ (∀ x c, X.env.cells.lookup x = some c → c ≠ b) ∧ ∀ p ∈ X.pn ++ pins, p.1 ≠ b := fun b hb => by
      obtain rfl : b = C := by simpa using hb
      exact ⟨fC.2.2.2.1, fC.2.1, fC.2.2.2.2.1, fC.2.2.2.2.2⟩
    refine ⟨a, PySem.W.hideAll B [C], { s with heap := G, gens := s'.gens, drawn := s'.drawn, toks := s'.toks }, pins, σ, H', cls, d, rfl, I.call (ch := [C]) un hokG ag hch, fun b o e hb => ?_, Heap.UpToSlots.of_keeps fun b o e => (gO b o e).1, .inr (.inr (by rw [hs]; exact held5)), na, os, ag, hW _ _ _ _ hE⟩
    obtain ⟨e5, q⟩ := gO b o e
    rcases q with q | q
    · obtain ⟨o2, q2⟩ := Option.isSome_iff_exists.mp q
      have := st5 b o2 q2
      rw [e5] at this
      cases this
      exact q2
    · exact absurd q hb
  first
    | exact wpAny_bind (wpAny_pure (wpAny_bind fin))
    | exact wpAny_bind fin
end BXE

namespace BXE
open PySem PySem.Spec PyProof.Rows L2
/-- what the calls of a block may let out -/
abbrev Out1 (X : Cx) (Eb : XK) (xe : Value → Shared → Prop) (Y : Cx) : Prop :=
  ∀ E' : XK, (∀ cls d H', E' cls d H' → Eb cls d H') → Passes (L2N.CX X.prog X.w) (Y.wish xe) E'
section
variable {X : Cx}
/-- a block's calls: what they let out is let out of the comprehension -/
theorem out_of {pins : List (Addr × Obj)} {σ : L2.St} {H3 : Hp} {s3 : Shared} {W : WX} {Eb : XK} {scope : Scope} {ce : Env} {fp : List Addr} {xe : Value → Shared → Prop}
    (hs : X.stack = X.env :: X.outer) (hf : X.env.frame = some X.env.locals) (tk : L2N.Takes X W) (hW : ∀ cls d σ H, Eb cls d H → W cls d σ H)
    (I3 : Inv X pins σ H3 s3) (hce : ce.frame = X.env.frame) (hL : ce.locals = s3.heap.objs.size) (f3 : ∀ b ∈ fp, FpOk X pins H3 b)
    (hx : xe = notedBy (model X.prog X.w) X.A ce (CompFails (model X.prog X.w) X.A X.xe ce)) : Out1 X Eb xe (X.blk s3 H3 scope ce fp) := by
  intro E' hE p2 σ2 H2 s2 u s' J c
  subst hx
  have J1 : Inv (X.blk s3 H3 scope ce fp) p2 σ2 H2 s2 := J.unwish
  have I2 : Inv X pins σ H2 s2 := I3.call' (ch := fp) J1.os J1.base J1.hok J1.bare fun b hb => by
    obtain ⟨_, q2, _, q4, q5, q6⟩ := f3 b hb
    exact ⟨q4, q2, q5, q6⟩
  have nC : H2 s3.heap.objs.size = none := by
    have := J1.free
    rw [← hL]
    exact this
  obtain ⟨m, hn, _⟩ := J1.loc
  have hn : s2.heap.Ns s3.heap.objs.size m := by rw [← hL]; exact hn
  exact fails_of_call hs hf tk (fun cls d σ H z => hW cls d σ H (hE cls d H z)) I2 hce hL hn (I3.fpOk (Nat.le_refl _) nC) c
/-- {k: v for target in iter if ..}, a value may raise -/
theorem pe_dcE {kx vx tg iter : Expr} {ifs : List Expr} {scope : Scope} {own : List (Str × Nat)} {pos : Pos} {wi : TI} {g : TG} {tt : TT} {tk tv : TE} {W : WX} {Eb : XK}
    (hst : X.stack = X.env :: X.outer) (hfr : X.env.frame = some X.env.locals) (tks : L2N.Takes X W) (hW : ∀ cls d σ H, Eb cls d H → W cls d σ H)
    (hc : X.calm = true) (hN : X.N.Nodup) (hi : PI X tg iter wi) (ok : BlkOk X.N X.env.scope scope own)
    (hg : ∀ (s : Shared) (H : Hp) (C : Addr) (cl : List (Str × Addr)) (fp : List Addr), PG (X.blk s H scope (compEnvC scope cl C X.env) fp) tg g)
    (ht : ∀ (s : Shared) (H : Hp) (C : Addr) (cl : List (Str × Addr)) (fp : List Addr), PTs (X.blk s H scope (compEnvC scope cl C X.env) fp) ifs tt)
    (hk : ∀ (s : Shared) (H : Hp) (C : Addr) (cl : List (Str × Addr)) (fp : List Addr), PE (X.blk s H scope (compEnvC scope cl C X.env) fp) kx tk)
    (he : ∀ (s : Shared) (H : Hp) (C : Addr) (cl : List (Str × Addr)) (fp : List Addr) (xe : Value → Shared → Prop), Out1 X Eb xe (X.blk s H scope (compEnvC scope cl C X.env) fp) → PE ((X.blk s H scope (compEnvC scope cl C X.env) fp).wish xe) vx tv)
    (hs : ∀ x, foldedSetIterable iter X.env x = pure x := by intro _; rfl) :
    PE X (.DictComp kx vx [⟨tg, iter, ifs, 0⟩] scope pos) (tDc wi g tt tk tv (own.map (·.2))) := by
  refine ⟨fun pins s σ H Q I h => ?_⟩
  rw [arm_eval_DictComp]
  have hfree : ∀ y ∈ scope.names, y.2 = .free → ∃ c, X.env.cells.lookup y.1 = some c := fun y hy e => (ok.free y hy e).elim (fun k => I.ok.has _ (.inl k)) fun k => I.ok.has _ (.inr k)
  refine comprehension_at (use := none) rfl hs (closure_ok hfree) ok.kind (fun y hy e => (ok.uniq y hy).trans (by rw [e])) ?_
  refine thn (hi.run pins s σ H _ I h) fun xv s1 hx => thn hx ?_
  rintro _ s2 ⟨it, fp, tn, J, H2, rfl, I2, T, st2, f2, q⟩
  refine wpAny_newObj_type (newEnv_comp ?_)
  obtain ⟨D, hD⟩ : ∃ D, D = s2.heap.objs.size := ⟨_, rfl⟩
  rw [← hD]
  have hDn : H2 D = none := I2.hok.fresh (Nat.le_of_eq hD.symm)
  obtain ⟨Wt, ⟨m0, w0⟩, turn⟩ := q D hDn
  obtain ⟨s3, hs3⟩ : ∃ s3 : Shared, s3 = { s2 with heap := s2.heap.push { cls := .type "dict", data := .dict #[] } } := ⟨_, rfl⟩
  have h3 : s3.heap = s2.heap.push { cls := .type "dict", data := .dict #[] } := by rw [hs3]
  have I3 : Inv X pins σ (upd H2 D (.dK [])) s3 := by
    rw [hs3]
    refine I2.laid (t' := s2.toks) (fun b o e => Heap.get?_push_of_some _ e) (Nat.le_of_eq hD.symm) ?_
    rw [hD]
    exact dk_empty s2.heap I2.big
  have f3 : ∀ b ∈ fp, FpOk X pins (upd H2 D (.dK [])) b ∧ b < s3.heap.objs.size := fun b hb => by
    obtain ⟨o, e, _⟩ := T.obj _ _ st2 b hb
    have hlt := Heap.lt_size e
    refine ⟨⟨?_, (f2 b hb).2⟩, by rw [h3, Heap.size_push]; exact Nat.lt_trans hlt (Nat.lt_succ_self _)⟩
    rw [upd_ne (fun z => Nat.ne_of_lt hlt (z.trans hD))]
    exact (f2 b hb).1
  have st3 : tn 0 s3.heap := T.keep _ _ _ st2 fun b _ o e => by
    rw [h3]
    exact Heap.get?_push_of_some _ e
  obtain ⟨cl, hcl⟩ : ∃ cl, cl = cellsFrom (s3.heap.objs.size + 1) scope.names (cloFrom X.env.cells scope.names []) := ⟨_, rfl⟩
  have I4 := block_start I3 ok hN f3
  rw [← hcl] at I4
  have pg := hg s3 (upd H2 D (.dK [])) s3.heap.objs.size cl fp
  have pt := ht s3 (upd H2 D (.dK [])) s3.heap.objs.size cl fp
  have pk := hk s3 (upd H2 D (.dK [])) s3.heap.objs.size cl fp
  have pe := fun xe => he s3 (upd H2 D (.dK [])) s3.heap.objs.size cl fp xe
  have n3 : ∀ b ∈ fp, (upd H2 D (.dK [])) b = none := fun b hb => (f3 b hb).1.1
  obtain ⟨ce, hce⟩ : ∃ ce, ce = compEnvC scope cl s3.heap.objs.size X.env := ⟨_, rfl⟩
  have cL : ce.locals = s3.heap.objs.size := by rw [hce]; rfl
  have cF : ce.frame = X.env.frame := by rw [hce]; rfl
  rw [← hce] at I4 pg pt pk
  have pe : PE ((X.blk s3 (upd H2 D (.dK [])) scope ce fp).wish (notedBy (model X.prog X.w) X.A ce (CompFails (model X.prog X.w) X.A X.xe ce))) vx tv := by
    have p0 := pe (notedBy (model X.prog X.w) X.A ce (CompFails (model X.prog X.w) X.A X.xe ce))
    rw [← hce] at p0
    exact p0 (out_of hst hfr tks hW I3 cF cL (fun b hb => (f3 b hb).1) rfl)
  clear hg ht hk he
  obtain ⟨s4, hs4⟩ : ∃ s4 : Shared, s4 = { s3 with heap := pushCells (s3.heap.push { cls := .type "dict", data := .dict #[] }) scope.names } := ⟨_, rfl⟩
  rw [← hs4] at I4
  have goal : codeAny (model X.prog X.w) X.A (.compStart (.DictComp kx vx [⟨tg, iter, ifs, 0⟩] scope pos) 0 (.ref it) (.ref D) ce) (compEnds (model X.prog X.w) X.A X.xe none (EP X pins σ Q) (.ref D) ce) s4 := by
    generalize upd H2 D (.dK []) = H3 at I3 I4 pg pt pk pe w0 n3 f3
    have st4 : tn 0 s4.heap := T.keep _ _ _ st3 fun b _ o e => by
      rw [hs4]
      exact pushCells_keeps _ _ _ _ (Heap.get?_push_of_some _ e)
    have stay : ∀ {τ : L2.St} {H' : Hp} {s' : Shared}, Inv (X.blk s3 H3 scope ce fp) [] τ H' s' → (∀ b ∈ fp, H' b = none) → ∀ b ∈ fp, FpOk (X.blk s3 H3 scope ce fp) [] H' b := by
      intro τ H' s' J hn b hb
      obtain ⟨j1, j2⟩ := J.ok.exf b hb
      exact ⟨hn b hb, j1, J.ok.exfs b hb, .inl hb, j2, fun p hp => by cases hp⟩
    suffices loop : codeAny (model X.prog X.w) X.A (.compLoop (.DictComp kx vx [⟨tg, iter, ifs, 0⟩] scope pos) 0 (.ref it) (.ref D) ce) (compEnds (model X.prog X.w) X.A X.xe none (EP X pins σ Q) (.ref D) ce) s4 from
      codeAny_compStart_dict loop (T.self X.A 0 _ _ _ st4 loop)
    refine compLoop_anyD (fun n s' => ∃ i H', Inv (X.blk s3 H3 scope ce fp) [] (wipe σ (own.map (·.2))) H' s' ∧ tn i s'.heap ∧ (∀ b ∈ fp, H' b = none) ∧ Wt i n H') ?_ m0 ⟨0, H3, I4, st4, n3, w0⟩
    rintro n s5 ⟨i, H5, I5, st5, n5, w5⟩
    rcases turn i n H5 w5 with ⟨stop, qq⟩ | ⟨go, Nx, hNx, step⟩
    · refine thnF (T.done (X.blk s3 H3 scope ce fp) rfl rfl rfl hc i [] s5 _ H5 (fun _ _ => False) I5 (stay I5 n5) st5 stop) ?_
      rintro _ s6 ⟨rfl, I6⟩
      have I7 : Inv X pins σ H5 s6 := I3.call' (ch := fp) I6.os I6.base I6.hok I6.bare fun b hb => by
        obtain ⟨_, q2, _, q4, q5, q6⟩ := (f3 b hb).1
        exact ⟨q4, q2, q5, q6⟩
      have nC : H5 ce.locals = none := I6.free
      obtain ⟨m, hn, _⟩ := I6.loc
      have hn : s6.heap.Ns ce.locals m := hn
      obtain ⟨g0, g1, _, g3, g4, g5⟩ := I3.fpOk (b := ce.locals) (Nat.le_of_eq cL.symm) nC
      exact ⟨m, hn, fun h'' sb => ⟨.ref D, H5, I7.turned (t' := s6.toks) (fun b o hb e => (sb.2 b hb).trans e) g0 g1 g3 g4 g5, rfl, qq⟩⟩
    · refine thnF (T.item (X.blk s3 H3 scope ce fp) rfl rfl rfl hc i [] s5 _ H5 (fun _ _ => False) I5 (stay I5 n5) st5 go) ?_
      rintro _ s6 ⟨u, rfl, h6⟩
      refine thnF h6 ?_
      rintro _ s7 ⟨x, H7, I7, r7, y7, st7, n7⟩
      refine thnF (pg.run _ s7 _ H7 x u _ (I7.pinned (stay I7 n7) (T.obj _ _ st7)) r7 (step x H7 y7)) ?_
      rintro _ s8 ⟨σ8, H8, I8, hw8, q8⟩
      refine thnF (pt.run _ s8 σ8 H8 _ I8 q8) ?_
      rintro b s9 ⟨H9, I9, q9⟩
      have fin : ∀ {s' : Shared} {H' : Hp}, Inv (X.blk s3 H3 scope ce fp) ([] ++ pinsAt fp s7.heap) σ8 H' s' → Nx H' → ∃ m, m < n ∧ ∃ i H', Inv (X.blk s3 H3 scope ce fp) [] (wipe σ (own.map (·.2))) H' s' ∧ tn i s'.heap ∧ (∀ b ∈ fp, H' b = none) ∧ Wt i m H' := by
        intro s' H' J nx
        obtain ⟨m', hm, w'⟩ := hNx H' nx
        have pin : ∀ b ∈ fp, ∀ o, s7.heap.get? b = some o → s'.heap.get? b = some o ∧ H' b = none := fun b hb o e => by
          have z := J.pin (b, o) (List.mem_append_right _ (List.mem_append_right _ (mem_pinsAt hb e)))
          exact ⟨z.1, z.2.1⟩
        have len : (wipe σ (own.map (·.2))).length = σ8.length := by rw [← hw8, wipe_length]
        have J2 := (J.unpinned (pins := [])).weak len (fun j v e => by
          rw [← hw8] at e
          exact (wipe_some e).1)
        refine ⟨m', hm, i + 1, H', J2, T.keep _ _ _ st7 fun b hb o e => (pin b hb o e).1, fun b hb => ?_, w'⟩
        obtain ⟨o, e, _⟩ := T.obj _ _ st7 b hb
        exact (pin b hb o e).2
      cases b with
      | false =>
        rw [if_neg (by decide)] at q9 ⊢
        exact fin I9 q9
      | true =>
        rw [if_pos rfl] at q9 ⊢
        refine thnF (pk.run _ s9 σ8 H9 _ I9 q9) ?_
        rintro z s10 ⟨yk, H10, I10, r10, q10⟩
        refine thn (pe.run _ s10 σ8 H10 _ (I10.wish _) q10) ?_
        rintro z2 s11 ⟨yv, H11, I11, r11, kvs, k, rfl, hD11, hz11, nx⟩
        exact d_dictSet (X := X.blk s3 H3 scope ce fp) I11.unwish hD11 hz11 r10 r11 fun s12 I12 => fin I12 nx
  rw [hce, hcl, hs4, hs3] at goal
  exact goal
end
end BXE

namespace MSX
open PySem PySem.Spec PyProof.Rows L2
/-- a method asked for: what it may let out is said at the slots -/
def tMC (C : Addr) (m : Str) (sp : Sp) (E : L2.St → XK) (ta : TE) (t : TA) : TE := fun σ H Q => tMeth C m sp [] (E σ) ta t σ H Q
theorem pe_mC {X : Cx} {CX : CXT} {k : Nat} {f C : Addr} {fd : FuncData} {ps : List Str} {sp : Sp} {E : L2.St → XK} {m : Str} {pos apos : Pos} {e o : Expr} {es : List Expr} {ta : TE} {t : TA} {pl : Sem Bool} (ho : PE X o ta) (c : Cls X.K C) (hm : Meth X.K C m f)
    (F : FnOk X.prog X.w X.K X.mg X.base CX k f fd ps sp) (hr : Room k X.A) (hb : Binds X.K fd ps []) (hx : ∀ σ, PassesAt CX X σ (E σ)) (ha : PA X (e :: es) t)
    (h1 : starEach (e :: es) X.env = (false, eval e X.env) :: starEach es X.env := by rfl) (h2 : (backTo pos (starEach es X.env)).any (·.1) = false := by rfl)
    (h3 : eval (.Call (.Attribute o m apos) (e :: es) [] pos) X.env = (do
      let v ← eval o X.env
      standAt apos.atName
      let (g, first) ← holding [v] (getMethod v m pl)
      callWith pos g first (backTo pos (starEach (e :: es) X.env)) (backToKw pos (keywordEach [] X.env))) := by rfl) :
    PE X (.Call (.Attribute o m apos) (e :: es) [] pos) (tMC C m sp E ta t) := by
  constructor
  intro pins s σ H Q I h
  refine PySem.W.methodCall_KW (pl := pl) (thn (ho.run pins s σ H _ I h) ?_) h3
  rintro _ s1 ⟨_, H1, I1, rx, a, dx, fs, rfl, ea, l, q⟩
  cases rx
  refine getmeth_ok I1 ea c hm l (PySem.W.callWith_K (first := [.ref a]) (h₀ := X.base) I.ok.mod.kin hm.kp (thn (ha.run pos pins s1 σ H1 _ I1 q) ?_) h1 h2)
  rintro us s2 ⟨vs, H2, I2, r, q2⟩
  rw [List.append_nil] at q2
  exact ⟨I2.kIn, run_fnS (us := .ref a :: us) (vs := .ref a :: vs) F hr hb (hx σ) I2 (.cons rfl r) q2⟩
theorem w_mC {C : Addr} {m : Str} {sp : Sp} {E : L2.St → XK} {ta : TE} {t : TA} {σ : L2.St} {H : Hp} {Q : VK} (h : tMeth C m sp [] (E σ) ta t σ H Q) : tMC C m sp E ta t σ H Q := h
end MSX

namespace L
open PySem PySem.Spec PyProof.Rows L2 Z M MR MT X2
open _root_.SX (S S_len S_cat S_inj)
section
variable {P : Program} {w : World} {K : PySem.W.Frag} {mg : Str → Option Value} {base : Heap}
theorem Refu.same {C : Addr} {i : Int} {H H' : Hp} {E : XK} (h : Refu C i H E) (s : Same H H') : Refu C i H' E := fun d H2 s2 e => h d H2 (s.trans s2) e
def spRankN (K : PySem.W.Frag) (CT CW C : Addr) : Sp := fun vs H Q E => ∃ (x : WS) (k : Nat) (l : Int), vs = [.ref x.o, .int l] ∧ WOk K CT CW H x ∧ WInv x k ∧ l.natAbs < 10 ^ 60 ∧
  ((l.natAbs : Int) ∈ x.ns → ∀ p, H p = none → Q (.ref p) (upd H p (.tup [.int (rk2 (tl x.rs) l).1, .int (rk2 (tl x.rs) l).2]))) ∧ ((l.natAbs : Int) ∉ x.ns → Refu C l H E)
theorem ok_rankN (T : Txt K mg) : FnOk P w K mg base (L2N.CX P w) 6 T.f_Watching_rank T.fd_Watching_rank ["self", "literal"] (spRankN K T.C_Trail T.C_Watching T.C_BadLiteral) := by
  have G_Trail_value := ok_value (P := P) (w := w) (base := base) T
  have G_Trail_level_of := ok_level (P := P) (w := w) (base := base) T
  refine okN T.F_Watching_rank sc_Watching_rank (fun vs H Q E h => ?_) (fun cdv A outer s H vs Q E hr h => ?_)
  · obtain ⟨x, k, l, rfl, _⟩ := h
    rfl
  · obtain ⟨x, k, l, rfl, ok, inv, lb, h, hE⟩ := h
    have rl := inv.rl
    refine ⟨_, (pss_cons (ps_if (pt_cmpR LK.op_isNotF (pe_meth (pe_fld (pv 0) rfl) T.cl_Trail T.M_Trail_value G_Trail_value (hr.mono (by first | decide | omega)) T.b_Trail_value .nil (L2N.passes_call (L2N.takes_of rfl rfl rfl rfl) fun _ _ _ _ h => h) (pa_cons (pv 1) pa_nil)) pe_bl rfl) (pss_one (ps_ret (pe_tup (pa_cons pe_int (pa_cons pe_int pa_nil))))) pss_nil)
 (pss_one (ps_ret (pe_tup (pa_cons pe_int (pa_cons (pe_un un_neg (pe_meth (pe_fld (pv 0) rfl) T.cl_Trail T.M_Trail_level_of G_Trail_level_of (hr.mono (by first | decide | omega)) T.b_Trail_level_of .nil (L2N.passes_call (L2N.takes_of rfl rfl rfl rfl) fun _ _ _ _ h => h) (pa_cons (pv 1) pa_nil))) pa_nil)))))), ?_⟩
    refine Z.w_start (σ' := [some (.ref x.o), some (.int l)]) rfl ?_
    walk_at "w"
    refine w_methF ?_
    refine w_fldT T.cl_Watching T.n_Watching__trail ok.wa.obj rfl ?_
    refine ⟨x.tr, x.t.dx, _, rfl, ok.ta.obj, by rfl, ?_⟩
    walk_at "w"
    refine ⟨x.tr, x.t, x.ns, x.rs, l, rfl, ok.ta, lb, by omega, fun hl => ?_, fun z => hE z⟩
    have h := h hl
    obtain ⟨l0, _⟩ := inv.nz hl
    walk_at "w"
    rcases val_cases inv.ti l0 with ⟨e, hv⟩ | ⟨v, e, hv, ha⟩
    · have hq := h
      unfold rk2 at hq
      rw [e] at hq
      rcases hv with hv | hv
      · refine .inl ⟨hv, ?_⟩
        walk_at "w"
        exact hq _ (by assumption)
      · refine .inr ⟨true, hv, ?_⟩
        walk_at "w"
        exact hq _ (by assumption)
    · have hq := h
      unfold rk2 at hq
      rw [e] at hq
      refine .inr ⟨false, hv, ?_⟩
      walk_at "w"
      refine w_methF ?_
      refine w_fldT T.cl_Watching T.n_Watching__trail ok.wa.obj rfl ?_
      refine ⟨x.tr, x.t.dx, _, rfl, ok.ta.obj, by rfl, ?_⟩
      walk_at "w"
      refine ⟨x.tr, x.t, x.ns, x.rs, l, rfl, ok.ta, lb, by omega, fun _ => ?_, fun z => absurd hl z⟩
      rw [ha]
      walk_at "w"
      exact hq _ (by assumption)
/-- a clause whose first literal over another node is l -/
def Bad (ns c : List Int) (l : Int) : Prop := c.length ≤ 150 ∧ (∀ y ∈ c, y.natAbs < 10 ^ 60) ∧ ∃ j : Nat, c[j]? = some l ∧ (l.natAbs : Int) ∉ ns ∧ ∀ (i : Nat) (y : Int), i < j → c[i]? = some y → (y.natAbs : Int) ∈ ns
def spBestN (K : PySem.W.Frag) (CT CW C : Addr) : Sp := fun vs H _ E => ∃ (x : WS) (k : Nat) (a : Addr) (c : List Int) (l : Int), vs = [.ref x.o, .ref a] ∧ WOk K CT CW H x ∧ WInv x k ∧ SqT K H a (c.map V.int) ∧ Bad x.ns c l ∧ Refu C l H E
theorem ok_bestN (T : Txt K mg) (TB : LamX.TabB base mg T.c_bw T.P_bw) : FnOk P w K mg base (L2N.CX P w) 7 T.f_Watching_best_watched T.fd_Watching_best_watched ["self", "clause"] (spBestN K T.C_Trail T.C_Watching T.C_BadLiteral) := by
  have G_Watching_rank := ok_rankN (P := P) (w := w) (base := base) T
  refine T.FT_bw.okN sc_Watching_best_watched (fun vs H Q E h => ?_) (fun A outer s H vs Q E hr h => ?_)
  · obtain ⟨x, k, a, c, l, rfl, _⟩ := h
    rfl
  · obtain ⟨x, k, a, c, l, rfl, ok, inv, hS, ⟨hl, hb, j, hj, hn, hlt⟩, hE⟩ := h
    refine ⟨_, (pss_cons (ps_set (i := 2) sc_Watching_best_watched.nd rfl (.inr rfl) (BXE.pe_dcE rfl rfl (L2N.takes_of rfl rfl rfl rfl) (fun _ _ _ _ h => h) (own := [("literal", 3)]) (g := gName 3) (tt := tYes) (by rfl) sc_Watching_best_watched.nd (pi_tup (pv 1)) (blkOk_by (own := [("literal", 3)]) (N := N_Watching_best_watched) (sc := defScope s_Watching_best_watched) (by decide +kernel)) (fun _ _ _ _ _ => pg_name (i := 3) sc_Watching_best_watched.nd rfl (Or.inl rfl)) (fun _ _ _ _ _ => pts_nil) (fun _ _ _ _ _ => (pv 3)) (fun _ _ _ _ _ _ xb => (pe_meth (pv 0) T.cl_Watching T.M_Watching_rank G_Watching_rank (hr.mono (by first | decide | omega)) T.b_Watching_rank .nil (xb E (fun _ _ _ h => h)) (pa_cons (pv 3) pa_nil)))))
 (pss_cons (ps_set (i := 4) sc_Watching_best_watched.nd rfl (.inl rfl) (LK.pe_sortedLam (kk := 0) (i := 2) (T := [(T.P_bw, lamQ)]) (hr.mono (by first | decide | omega)) (by rfl) T.m_sorted (pv 1) TB rfl (List.mem_singleton.mpr rfl) (fun p hp _ => by rw [List.mem_singleton.mp hp]; rfl) (LK.ks_by (sc := defScope s_Watching_best_watched) (by decide +kernel)) rfl (fun _ _ _ _ _ _ => rfl) rfl))
 (pss_one (ps_ret (pe_callTy call_tuple_of (by rfl) T.m_tuple (by decide +kernel) (pa_cons (pe_slice sl_list (pv 4) po_none (po_some pe_int)) pa_nil)))))), ?_⟩
    refine Z.w_start (σ' := [some (.ref x.o), some (.ref a), none, none, none]) rfl ?_
    walk_at "w"
    refine L.w_dc ?_
    walk_at "w"
    intro D hD
    have hjl := (List.getElem?_eq_some_iff.mp hj).1
    refine L.dc_it (walk_tup (K := K) (a := a) (xs := c.map V.int)) (fun i H' => ∃ kvs, H' D = some (.dK kvs) ∧ kvs.length ≤ i ∧ Same H H' ∧ i ≤ j) ?_ ?_ ?_ ?_
    · exact ⟨[], upd_same, Nat.le_refl _, same_of (Same.refl _) hD, Nat.zero_le _⟩
    · rintro i H' hi ⟨kvs, _, _, sm, _⟩
      exact Evl.ex_t sm hS
    · rintro i y H1 H' hi ⟨kvs, hDk, hkl, sm, hij⟩ ⟨rfl, hx⟩
      rw [List.getElem?_map] at hx
      rw [List.length_map] at hi
      have hci := List.getElem?_eq_getElem hi
      generalize c[i] = ci at hci
      rw [hci] at hx
      obtain rfl := Option.some.inj hx
      have ok1 := ok.same sm
      refine Z.w_gname (σ' := [some (.ref x.o), some (.ref a), none, some (.int ci), none]) rfl ⟨rfl, ?_⟩
      walk_at "w"
      refine w_meth0 ok1.wa.obj rfl (by rfl) ?_
      walk_at "w"
      refine ⟨x, k, ci, rfl, ok1, inv, hb _ (List.mem_of_getElem? hci), fun hin p hp => ?_, fun hout => ?_⟩
      · have npD : p ≠ D := fun z => by rw [z, hDk] at hp; cases hp
        refine ⟨kvs, Sum.inl ci, rfl, upd_of hp hDk, Nat.lt_of_le_of_lt hkl (Nat.lt_trans (show i < 200 by omega) (by decide)), _, upd_same, Nat.le_trans (length_putK _ _ _) (by omega), same_mut (same_of sm hp) hD, ?_⟩
        rcases Nat.lt_or_ge i j with z | z
        · exact z
        · have : i = j := by omega
          subst this
          rw [hci] at hj
          obtain rfl := Option.some.inj hj
          exact absurd hin hn
      · have e : i = j := by
          rcases Nat.lt_or_ge i j with z | z
          · exact absurd (hlt i ci z hci) hout
          · omega
        subst e
        rw [hci] at hj
        obtain rfl := Option.some.inj hj
        exact hE.same sm
    · rintro H5 ⟨kvs, hDk, hkl, sm, hij⟩
      rw [List.length_map] at hij
      omega
def spPutN (K : PySem.W.Frag) (CT CW C : Addr) : Sp := fun vs H _ E => ∃ (x : WS) (k : Nat) (a : Addr) (c : List Int) (s l : Int), vs = [.ref x.o, .ref a, .int s] ∧ WOk K CT CW H x ∧ WInv x k ∧ SqT K H a (c.map V.int) ∧ Bad x.ns c l ∧ Refu C l H E
theorem ok_putN (T : Txt K mg) (TB : LamX.TabB base mg T.c_bw T.P_bw) : FnOk P w K mg base (L2N.CX P w) 8 T.f_Watching_put T.fd_Watching_put ["self", "clause", "source"] (spPutN K T.C_Trail T.C_Watching T.C_BadLiteral) := by
  have G_Watching_best_watched := ok_bestN (P := P) (w := w) (base := base) T TB
  refine okN T.F_Watching_put sc_Watching_put (fun vs H Q E h => ?_) (fun cdv A outer s H vs Q E hr h => ?_)
  · obtain ⟨x, k, a, c, s, l, rfl, _⟩ := h
    rfl
  · obtain ⟨x, k, a, c, s, l, rfl, ok, inv, hS, hb, hE⟩ := h
    refine ⟨_, (pss_cons (ps_set (i := 3) sc_Watching_put.nd rfl (.inl rfl) (pe_meth (pv 0) T.cl_Watching T.M_Watching_best_watched G_Watching_best_watched (hr.mono (by first | decide | omega)) T.b_Watching_best_watched .nil (L2N.passes_call (L2N.takes_of rfl rfl rfl rfl) fun _ _ _ _ h => h) (pa_cons (pv 1) pa_nil)))
 (pss_cons (ps_set (i := 4) sc_Watching_put.nd rfl (.inl rfl) (pe_callB call_len_seq (by rfl) T.m_len (by decide +kernel) (pa_cons (pe_fld (pv 0) rfl) pa_nil)))
 (pss_cons (ps_expr (pe_bm PySem.F.plainAttrs_list PySem.F.slot_list_append PySem.F.type_list_append mt_append (pe_fld (pv 0) rfl) (pa_cons (pv 1) pa_nil)))
 (pss_cons (ps_expr (pe_bm PySem.F.plainAttrs_list PySem.F.slot_list_append PySem.F.type_list_append mt_append (pe_fld (pv 0) rfl) (pa_cons (pv 2) pa_nil)))
 (pss_cons (ps_expr (pe_bm PySem.F.plainAttrs_list PySem.F.slot_list_append PySem.F.type_list_append mt_append (pe_fld (pv 0) rfl) (pa_cons (pv 3) pa_nil)))
 (pss_cons (ps_expr (pe_bm PySem.F.plainAttrs_list PySem.F.slot_list_append PySem.F.type_list_append mt_append (pe_fld (pv 0) rfl) (pa_cons (pv 4) pa_nil)))
 (pss_cons (ps_if (pt_cmpR op_eq (pe_callB call_len_seq (by rfl) T.m_len (by decide +kernel) (pa_cons (pv 3) pa_nil)) pe_int (nomark _)) (pss_one (ps_for (passes_of rfl) rfl (pi_tup (pv 3)) (pg_name (i := 5) sc_Watching_put.nd rfl (.inl rfl)) (pss_one (ps_expr (pe_bm PySem.F.plainAttrs_list PySem.F.slot_list_append PySem.F.type_list_append mt_append (pe_dsetd (pe_fld (pv 0) rfl) (pv 5) (pe_lst pa_nil) ⟨rfl, rfl, rfl, rfl⟩) (pa_cons (pv 4) pa_nil)))))) pss_nil)
 (pss_one (ps_ret (pv 4)))))))))), ?_⟩
    refine Z.w_start (σ' := [some (.ref x.o), some (.ref a), some (.int s), none, none, none]) rfl ?_
    walk_at "w"
    refine w_meth0 ok.wa.obj rfl (by rfl) ?_
    walk_at "w"
    exact ⟨x, k, a, c, l, rfl, ok, inv, hS, hb, hE⟩
theorem ok_wholeH (T : Txt K mg) : L2H.FnH P w K mg base CX0 1 T.f_whole T.fd_whole ["_law_value"] spWhole := by
  refine okH T.F_whole sc_whole (fun vs H Q E h => ?_) (fun cdv A outer s H vs Q E p hot hr h => ?_)
  · obtain ⟨i, rfl, _⟩ := h
    rfl
  · obtain ⟨i, rfl, hq⟩ := h
    refine ⟨_, (pss_one (ps_ret (pe_and (pe_callB call_isi (by rfl) T.m_isinstance (by decide +kernel) (pa_cons (pv 0) (pa_cons (pe_bltn (v := .ty "int") (by rfl) T.m_int (by decide +kernel) rfl) pa_nil))) (pe_one (pe_not (pe_callB call_isi (by rfl) T.m_isinstance (by decide +kernel) (pa_cons (pv 0) (pa_cons (pe_bltn (v := .ty "bool") (by rfl) T.m_bool (by decide +kernel) rfl) pa_nil)))))))), ?_⟩
    refine Z.w_start (σ' := [some (.int i)]) rfl ?_
    walk_at "w"
    exact hq
def spRefusedP (K : PySem.W.Frag) (CT CW : Addr) : Sp := fun vs H Q _ => ∃ (x : WS) (k : Nat) (a : Addr) (c : List Int) (l : Int), vs = [.ref x.o, .ref a, .int l] ∧ WOk K CT CW H x ∧ WInv x k ∧ SqT K H a (c.map V.int) ∧ Bad x.ns c l ∧ ∀ H', Same H H' → Q (.bl true) H'
theorem ok_refused (T : Txt K mg) (TB : LamX.TabB base mg T.c_bw T.P_bw) : FnOk P w K mg base CX0 9 T.f_refused T.fd_refused ["_law_watching", "_law_clause_here", "_law_due"] (spRefusedP K T.C_Trail T.C_Watching) := by
  have G_Watching_put := ok_putN (P := P) (w := w) (base := base) T TB
  have GH_whole := ok_wholeH (P := P) (w := w) (base := base) T
  refine T.F_refused.ok sc_refused (fun vs H Q E h => ?_) (fun cdv A outer s H vs Q E hr h => ?_)
  · obtain ⟨x, k, a, c, l, rfl, _⟩ := h
    rfl
  · obtain ⟨x, k, a, c, l, rfl, ok, inv, hS, hb, h⟩ := h
    refine ⟨_, (pss_cons (L2N.ps_try_as (i := 3)  rfl rfl sc_refused.nd rfl rfl ⟨rfl, by decide, .inl T.c_BadLiteral⟩ X2.takesN (fun W pn xe tk _ => (pss_one (ps_expr (MSX.pe_mC (pv 0) T.cl_Watching T.M_Watching_put G_Watching_put (hr.mono (by first | decide | omega)) T.b_Watching_put (fun σ => L2N.passAt tk σ) (by exact (pa_cons (pv 1) (pa_cons pe_int pa_nil))))))) (fun a oe cls d pn hz hf => (pss_one (ps_ret (pe_and (pe_callB (X2.call_isX1 hz.zc hf) (by rfl) T.m_isinstance (by decide +kernel) (pa_cons (pv 3) (pa_cons (pe_glob (v := .ref T.C_PaperError) (by rfl) T.c_PaperError rfl) pa_nil))) (pe_and (L2H.pe_callH GH_whole (X2.roomM (hr.mono (by first | decide | omega)) _) (X2.hot_of hz hf) (by rfl) T.g_whole T.F_whole.kp T.b_whole X2.passH0 (pa_cons (pe_xf T.xo_BadLiteral.xf T.xo_BadLiteral.no hz.zc hf (pv 3)) pa_nil)) (pe_one (pe_cmpR op_eq (pe_xf T.xo_BadLiteral.xf T.xo_BadLiteral.no hz.zc hf (pv 3)) (pv 2) (nomark _)))))))))
 (pss_one (ps_ret pe_bl))), ?_⟩
    refine Z.w_start (σ' := [some (.ref x.o), some (.ref a), some (.int l), none]) rfl ?_
    walk_at "w"
    refine MSX.w_mC ?_
    refine w_meth0 ok.wa.obj rfl (by rfl) ?_
    walk_at "w"
    refine ⟨x, k, a, c, 5, l, rfl, ok, inv, hS, hb, fun dd H' s1 hx => ⟨true, T.e_BadLiteral_BadLiteral, fun _ e he => ?_, fun q => nomatch q⟩⟩
    refine Z.w_start (σ' := [some (.ref x.o), some (.ref a), some (.int l), some (.ref e)]) rfl ?_
    walk_at "w"
    refine w_isX1 T.xo_BadLiteral.xc (by walk_at "hp") (.own _) T.k_BadLiteral_PaperError ?_
    walk_at "w"
    rw [decide_eq_true (rfl : l = l)]
    refine h _ (by walk_at "same")
theorem ok_refusedB (T : Txt K mg) (TB : LamX.TabB base mg T.c_bw T.P_bw) : FnOk P w K mg base CX0 9 T.f_refused_base T.fd_refused_base ["_law_watching", "_law_clause_here", "_law_due"] (spRefusedP K T.C_Trail T.C_Watching) := by
  have G_Watching_put := ok_putN (P := P) (w := w) (base := base) T TB
  have GH_whole := ok_wholeH (P := P) (w := w) (base := base) T
  refine T.F_refused_base.ok sc_refused_base (fun vs H Q E h => ?_) (fun cdv A outer s H vs Q E hr h => ?_)
  · obtain ⟨x, k, a, c, l, rfl, _⟩ := h
    rfl
  · obtain ⟨x, k, a, c, l, rfl, ok, inv, hS, hb, h⟩ := h
    refine ⟨_, (pss_cons (L2N.ps_try_as (i := 3)  rfl rfl sc_refused_base.nd rfl rfl ⟨rfl, by decide, .inl T.c_PaperError⟩ X2.takesN (fun W pn xe tk _ => (pss_one (ps_expr (MSX.pe_mC (pv 0) T.cl_Watching T.M_Watching_put G_Watching_put (hr.mono (by first | decide | omega)) T.b_Watching_put (fun σ => L2N.passAt tk σ) (by exact (pa_cons (pv 1) (pa_cons pe_int pa_nil))))))) (fun a oe cls d pn hz hf => (pss_cons (ps_if (PW.pt (pw_or (pt_not (pt_val (pe_callB (X2.call_isX1 hz.zc hf) (by rfl) T.m_isinstance (by decide +kernel) (pa_cons (pv 3) (pa_cons (pe_glob (v := .ref T.C_BadLiteral) (by rfl) T.c_BadLiteral rfl) pa_nil))))) (pw_or1 (pt_not (pt_val (pe_callB (X2.call_isX1 hz.zc hf) (by rfl) T.m_isinstance (by decide +kernel) (pa_cons (pv 3) (pa_cons (pe_bltn (v := .ty "ValueError") (by rfl) T.m_ValueError (by decide +kernel) rfl) pa_nil)))))))) (pss_one (ps_ret pe_bl)) pss_nil)
 (pss_one (ps_ret (pe_and (L2H.pe_callH GH_whole (X2.roomM (hr.mono (by first | decide | omega)) _) (X2.hot_of hz hf) (by rfl) T.g_whole T.F_whole.kp T.b_whole X2.passH0 (pa_cons (pe_xf T.xo_BadLiteral.xf T.xo_BadLiteral.no hz.zc hf (pv 3)) pa_nil)) (pe_one (pe_cmpR op_eq (pe_xf T.xo_BadLiteral.xf T.xo_BadLiteral.no hz.zc hf (pv 3)) (pv 2) (nomark _)))))))))
 (pss_one (ps_ret pe_bl))), ?_⟩
    refine Z.w_start (σ' := [some (.ref x.o), some (.ref a), some (.int l), none]) rfl ?_
    walk_at "w"
    refine MSX.w_mC ?_
    refine w_meth0 ok.wa.obj rfl (by rfl) ?_
    walk_at "w"
    refine ⟨x, k, a, c, 5, l, rfl, ok, inv, hS, hb, fun dd H' s1 hx => ⟨true, T.e_BadLiteral_PaperError, fun _ e he => ?_, fun q => nomatch q⟩⟩
    refine Z.w_start (σ' := [some (.ref x.o), some (.ref a), some (.int l), some (.ref e)]) rfl ?_
    walk_at "w"
    refine w_isX1 T.xo_BadLiteral.xc (by walk_at "hp") (.own _) T.k_BadLiteral_BadLiteral ?_
    walk_at "w"
    refine w_isX1 T.xo_BadLiteral.xc (by walk_at "hp") (.ty _) T.k_BadLiteral_ValueError ?_
    walk_at "w"
    rw [decide_eq_true (rfl : l = l)]
    refine h _ (by walk_at "same")
end
end L

namespace L
open PySem PySem.Spec PyProof.Rows L2 Z M MR MT X2
open _root_.SX (S S_len S_cat S_inj)
/-- what a law's deed leaves: the nodes stay -/
structure Step (K : PySem.W.Frag) (CT CW : Addr) (T : Tb) (H H' : Hp) (z z' : SS) (m : Nat) : Prop where
  go : Go K CT CW T H H' z z'
  si : SInv z' m
  ns : z'.x.ns = z.x.ns
  dn : z'.x.t.dn = z.x.t.dn
theorem SOk.fresh {K : PySem.W.Frag} {CT CW : Addr} {T : Tb} {H : Hp} {z : SS} (h : SOk K CT CW T H z) {p : Addr} (hp : H p = none) : p ∉ z.all := fun m => by
  rcases List.mem_append.mp m with m | m
  · obtain ⟨xs, e⟩ := h.lst p m
    rw [hp] at e
    cases e
  · obtain ⟨u, e, _⟩ := h.ok.mu p m
    rw [hp] at e
    cases e
theorem keep_take {L : Nat} : ∀ {us : List V} {ls : List Nat} {e : Nat}, us.length = ls.length → (∀ i n, ls[i]? = some n → (n ≤ L ↔ i < e)) → (us.zip ls).filterMap (fun p => if p.2 ≤ L then some p.1 else none) = us.take e
  | [], _, e, _, _ => by simp
  | u :: us, [], e, h, _ => by cases h
  | u :: us, n :: ls, 0, h, hh => by
    have h0 := hh 0 n rfl
    rw [List.zip_cons_cons, List.filterMap_cons_none (by rw [if_neg (by omega)]), keep_take (e := 0) (Nat.succ.inj h) (fun i m e => by have := hh (i + 1) m e; omega)]
    simp
  | u :: us, n :: ls, e + 1, h, hh => by
    have h0 := hh 0 n rfl
    rw [List.zip_cons_cons, List.filterMap_cons_some (b := u) (by rw [if_pos (by omega)]), keep_take (e := e) (Nat.succ.inj h) (fun i m q => by have := hh (i + 1) m q; omega)]
    rfl
structure StepQ (K : PySem.W.Frag) (CT CW : Addr) (T : Tb) (q : Addr) (H H' : Hp) (z z' : SS) (m : Nat) : Prop where
  gq : Gq K CT CW T q H H' z z'
  si : SInv z' m
  ns : z'.x.ns = z.x.ns
  dn : z'.x.t.dn = z.x.t.dn
theorem SInv.up {z : SS} {m n : Nat} (h : SInv z m) (hm : m ≤ n) (hn : n ≤ 900) : SInv z n := ⟨h.inv, h.cs, ⟨Nat.le_trans h.so.1 hm, h.so.2⟩, h.fg, h.rs, h.rr, h.hdl, ⟨Nat.le_trans h.cap.1 hm, Nat.le_trans h.cap.2.1 hm, hn⟩, h.lk⟩
theorem SInv.tw {z : SS} {m : Nat} (h : SInv z m) : NoTwin z.rs := by
  obtain ⟨k, inv, _⟩ := h.inv
  have := inv.ti.nd
  rw [tl_lits] at this
  unfold lits at this
  rw [List.map_map] at this
  rw [h.rs]
  exact this
theorem SInv.len {z : SS} {m : Nat} (h : SInv z m) : z.rs.length ≤ 50 := by
  obtain ⟨k, inv, _⟩ := h.inv
  rw [h.rs]
  exact inv.rl
theorem SInv.lits {z : SS} {m : Nat} (h : SInv z m) : ∀ l ∈ L.lits z.rs, (l.natAbs : Int) ∈ z.x.ns ∧ l.natAbs < 10 ^ 60 ∧ l ≠ 0 := by
  obtain ⟨k, inv, _⟩ := h.inv
  intro l hl
  rw [h.rs] at hl
  exact ⟨inv.lit l hl, (inv.nz (inv.lit l hl)).2, (inv.nz (inv.lit l hl)).1⟩
section
variable {P : Program} {w : World} {K : PySem.W.Frag} {mg : Str → Option Value} {base : Heap}
def spLBack (K : PySem.W.Frag) (CT CW : Addr) (T : Tb) : Sp := fun vs H Q _ => ∃ (z : SS) (m L : Nat), vs = [.ref z.Sa, .int (L : Int)] ∧ SOk K CT CW T H z ∧ SInv z m ∧
  ∀ H' z', Step K CT CW T H H' z z' m → z'.x.rs = z.x.rs.take (ed z.x.rs (L + 1)) → z'.pr = z.pr → z'.x.D.cs = z.x.D.cs → Q (.bl true) H'
theorem ok_Lback (T : Txt K mg) {Tt : Tb} : FnOk P w K mg base CX0 9 T.f_back T.fd_back ["_law_seat_here", "_law_level"] (spLBack K T.C_Trail T.C_Watching Tt) := by
  have G_Trail_back := ok_back (P := P) (w := w) (base := base) T
  have G_stands := ok_stands (P := P) (w := w) (base := base) T (Tt := Tt)
  refine T.F_back.ok sc_back (fun vs H Q E h => ?_) (fun cdv A outer s H vs Q E hr h => ?_)
  · obtain ⟨z, m, L, rfl, _⟩ := h
    rfl
  · obtain ⟨z, m, L, rfl, so, si, h⟩ := h
    obtain ⟨k, inv, hk⟩ := si.inv
    have hsa := so.sa
    have hs0 : atI z.line 0 = some (.ref z.x.tr) := rfl
    have hs6 : atI z.line 6 = some (.ref z.Ar) := rfl
    refine ⟨_, (pss_cons (ps_if (pt_cmpR op_notN (pe_meth (pe_ix ix_list (pv 0) pe_int (fun _ _ => rfl)) T.cl_Trail T.M_Trail_back G_Trail_back (hr.mono (by first | decide | omega)) T.b_Trail_back .nil pass0 (pa_cons (pv 1) pa_nil)) pe_non (nomark _)) (pss_one (ps_ret pe_bl)) pss_nil)
 (pss_cons (ps_asg (pe_lc (own := [("_law_row", 2)]) (g := gName 2) (by rfl) sc_back.nd (pi_list (pe_ix ix_list (pv 0) pe_int (fun _ _ => rfl))) (blkOk_by (own := [("_law_row", 2)]) (N := N_back) (sc := defScope s_back) (by decide +kernel)) (fun _ _ _ _ _ => pg_name (i := 2) sc_back.nd rfl (Or.inl rfl)) (fun _ _ _ _ _ => pts_one (pt_cmpR op_le (pe_ix (show IxR _ (rIxT K) from ix_tup) (pv 2) pe_int (fun _ _ => rfl)) (pv 1) (nomark _))) (fun _ _ _ _ _ => (pv 2))) (pg_sub (pv 0) pe_int set_list))
 (pss_one (ps_ret (pe_call G_stands (hr.mono (by first | decide | omega)) (by rfl) T.g_stands T.F_stands.kp T.b_stands .nil pass0 (pa_cons (pv 0) pa_nil)))))), ?_⟩
    refine Z.w_start (σ' := [some (.ref z.Sa), some (.int (L:Int)), none]) rfl ?_
    walk_at "w"
    refine w_methF ?_
    walk_at "w"
    refine ⟨_, _, _, rfl, so.ok.ta.obj, by rfl, ?_⟩
    walk_at "w"
    have hl := si.len
    have ers := si.rs
    refine ⟨z.x.tr, z.x.t, z.x.ns, z.x.rs, L, rfl, so.ok.ta, by rw [← ers]; omega, by rw [← ers]; exact si.tw.lits, fun H1 d1 ta1 => ?_⟩
    have ok1 : WOk K T.C_Trail T.C_Watching H1 (z.x.bck (ed z.x.rs (L + 1))) := so.ok.trX d1 ta1
    have g1 := Go.prog (x' := z.x.bck (ed z.x.rs (L + 1))) so (so.ok.trD (T := Tt) d1) ok1 rfl rfl rfl
    have inv1 := inv.bck so.ok.ta.tic.2.2.1 L
    have so1 := g1.so
    have hsa1 := so1.sa
    have har1 := so1.ar
    walk_at "w"
    intro D hD
    have hul := so.rv.1
    dsimp only at g1 so1 hsa1 har1
    have hrv := so1.rv
    dsimp only at hrv
    refine lcl (K := K) (z.us.zip (levs z.rs)) (fun p => if p.2 ≤ L then some p.1 else none) (by rw [List.length_zip, levs_len, hul, Nat.min_self]) (by rw [List.length_zip, levs_len]; omega) hD (.inl (.inl har1)) ?_ ?_
    · rintro i v y H' acc N hx hy sm eD sz k1 k2
      have hy := List.getElem?_zip_eq_some.mp hy
      have hi : i < z.rs.length := by
        have := (List.getElem?_eq_some_iff.mp hy.2).1
        rwa [levs_len] at this
      obtain ⟨p, e1, e2⟩ := hrv.2 i _ (List.getElem?_eq_getElem hi)
      rw [hx] at e1
      obtain rfl := Option.some.inj e1
      have ey := (levs_at hy.2).2
      rw [← ey] at e2
      have e3 : y.1 = .ref p := by
        have := hy.1
        rw [hx] at this
        exact (Option.some.inj this).symm
      have ht := sm _ _ e2
      refine Z.w_gname rfl ⟨rfl, ?_⟩
      walk_at "w"
      by_cases hL : y.2 ≤ L
      · rw [if_pos hL] at k1
        rw [decide_eq_true (show (y.2 : Int) ≤ L by omega), if_pos rfl]
        walk_at "w"
        rw [e3] at k1
        exact ⟨acc, eD, sz, k1 _ rfl⟩
      · rw [if_neg hL] at k2
        rw [decide_eq_false (show ¬ (y.2 : Int) ≤ L by omega), if_neg (by decide)]
        exact k2 rfl
    · intro H2 s2 eD
      rw [keep_take (e := ed z.rs (L + 1)) (by rw [levs_len, hul]) fun i n e => by
        obtain ⟨q1, q2⟩ := levs_at e
        rw [q2]
        exact key z.rs L i q1] at eD
      have so2 := so1.same s2
      have hsa2 := so2.sa
      have rv2 := so2.rv.take (ed z.rs (L + 1))
      have g2 := Go.rows' so2 ((DX.refl _ _).same s2) eD hD rv2 (so1.fresh hD)
      dsimp only at hsa2 g2
      have g := g1.trans g2
      have so3 := g2.so
      have si3 : SInv { z with x := z.x.bck (ed z.x.rs (L + 1)), Ar := D, us := z.us.take (ed z.rs (L + 1)), rs := z.rs.take (ed z.rs (L + 1)), hd := z.hd.take (ed z.rs (L + 1)) } m := by
        refine ⟨⟨_, inv1, fun hpr => ?_⟩, si.cs, si.so, si.fg, ?_, by show RInvH _ _ (z.x.rs.take _) (z.hd.take (ed z.rs (L + 1))); rw [ers]; exact si.rr.take _, ?_, si.cap, si.lk⟩
        · obtain ⟨q1, q2⟩ := hk hpr
          refine ⟨?_, q2⟩
          show min k _ = (z.x.rs.take _).length
          rw [List.length_take, q1, Nat.min_comm]
        · show z.rs.take _ = z.x.rs.take _
          rw [ers]
        · show (z.hd.take _).length = (z.rs.take _).length
          rw [List.length_take, List.length_take, si.hdl]
      have tw3 := si3.tw
      have ll3 := si3.len
      have li3 := si3.lits
      walk_at "w"
      refine ⟨{ z with x := z.x.bck (ed z.x.rs (L + 1)), Ar := D, us := z.us.take (ed z.rs (L + 1)), rs := z.rs.take (ed z.rs (L + 1)), hd := z.hd.take (ed z.rs (L + 1)) }, rfl, so3, by show z.rs.take _ = z.x.rs.take _; rw [ers], ll3, tw3, li3, inv.nsb, inv.nsl.1, fun H3 s3 => h H3 _ ⟨g.same s3, si3, rfl, rfl⟩ rfl rfl rfl⟩
end
end L

namespace L
open PySem PySem.Spec PyProof.Rows L2 Z M MR MT X2
open _root_.SX (S S_len S_cat S_inj)
theorem Grow.at {cs : List (List Int)} {fg : List Bool} {rs rs1 : List TRow} (g : Grow cs fg rs rs1) {j : Nat} {r : TRow} (h0 : rs.length ≤ j) (h : rs1[j]? = some r) : GRow cs fg (rs1.take j) r := by
  induction g with
  | refl =>
    have := (List.getElem?_eq_some_iff.mp h).1
    omega
  | @step rs2 r2 _ hr ih =>
    by_cases hj : j < rs2.length
    · rw [List.getElem?_append_left hj] at h
      rw [List.take_append_of_le_length (by omega)]
      exact ih h
    · have h2 := (List.getElem?_eq_some_iff.mp h).1
      rw [List.length_append, List.length_singleton] at h2
      obtain rfl : j = rs2.length := by omega
      rw [List.getElem?_append_right (Nat.le_refl _), Nat.sub_self] at h
      obtain rfl : r2 = r := Option.some.inj h
      rw [List.take_append_of_le_length (Nat.le_refl _), List.take_of_length_le (Nat.le_refl _)]
      exact hr
theorem hdG_succ {hd : List Bool} {n : Nat} (h : hd.length ≤ n) : hdG hd (n + 1) = hdG hd n ++ [false] := by
  unfold hdG
  rw [show n + 1 - hd.length = (n - hd.length) + 1 by omega, List.replicate_succ', List.append_assoc]
theorem hdG_self (hd : List Bool) : hdG hd hd.length = hd := by
  unfold hdG
  rw [Nat.sub_self]
  simp
section
variable {P : Program} {w : World} {K : PySem.W.Frag} {mg : Str → Option Value} {base : Heap}
def spGrown (K : PySem.W.Frag) (CT CW : Addr) (T : Tb) : Sp := fun vs H Q _ => ∃ (z : SS) (k : Nat), vs = [.ref z.Sa] ∧ SOk K CT CW T H z ∧ z.hd.length = z.rs.length ∧ WB z.x k ∧ z.cs = z.x.D.cs ∧ z.fg = z.x.D.fg ∧ Grow (z.x.D.cs.map (·.2)) z.x.D.fg z.rs z.x.rs ∧
  ∀ H' p us, Same H H' → H p = none → H' p = some (.lst us) → RowsH H' us z.x.rs (hdG z.hd z.x.rs.length) → Q (.ref p) H'
theorem ok_grown (T : Txt K mg) {Tt : Tb} : FnOk P w K mg base CX0 8 T.f_grown T.fd_grown ["_law_seat_here"] (spGrown K T.C_Trail T.C_Watching Tt) := by
  have G_depth := ok_Ldepth (P := P) (w := w) (base := base) T (Tt := Tt)
  have G_list := ok_list (P := P) (w := w) (base := base) T
  have G_whole := ok_whole (P := P) (w := w) (base := base) T
  have G_Trail_literals := ok_literals (P := P) (w := w) (base := base) T
  have G_Trail_reason_of := ok_reason (P := P) (w := w) (base := base) T
  refine T.F_grown.ok sc_grown (fun vs H Q E h => ?_) (fun cdv A outer s H vs Q E hr h => ?_)
  · obtain ⟨z, k, rfl, _⟩ := h
    rfl
  · obtain ⟨z, k, rfl, so, hdl, b, ecs, efg, gr, h⟩ := h
    have hsa := so.sa
    have har := so.ar
    have hul := so.rv.1
    have hrl := b.rl
    have hpre := gr.pre
    have hple := hpre.length_le
    have hs6 : atI z.line 6 = some (.ref z.Ar) := rfl
    have hs0 : atI z.line 0 = some (.ref z.x.tr) := rfl
    have hs2 : atI z.line 2 = some (.ref z.An) := rfl
    have hs3 : atI z.line 3 = some (.ref z.Ac) := rfl
    have hs5 : atI z.line 5 = some (.ref z.Af) := rfl
    refine ⟨_, (pss_cons (ps_set (i := 1) sc_grown.nd rfl (.inl rfl) (pe_callTy call_list_of (by rfl) T.m_list (by decide +kernel) (pa_cons (pe_ix ix_list (pv 0) pe_int (fun _ _ => rfl)) pa_nil)))
 (pss_cons (ps_set (i := 2) sc_grown.nd rfl (.inl rfl) (pe_call G_depth (hr.mono (by first | decide | omega)) (by rfl) T.g_depth T.F_depth.kp T.b_depth .nil pass0 (pa_cons (pv 0) pa_nil)))
 (pss_cons (ps_set (i := 3) sc_grown.nd rfl (.inl rfl) (pe_meth0 (pe_ix ix_list (pv 0) pe_int (fun _ _ => rfl)) T.cl_Trail T.M_Trail_literals G_Trail_literals (hr.mono (by first | decide | omega)) T.b_Trail_literals .nil pass0))
 (pss_cons (ps_if (PW.pt (pw_or (pt_not (pt_val (pe_callB call_isi (by rfl) T.m_isinstance (by decide +kernel) (pa_cons (pv 3) (pa_cons (pe_bltn (v := .ty "list") (by rfl) T.m_list (by decide +kernel) rfl) pa_nil))))) (pw_or1 (pt_not (pt_val (pe_call G_list (hr.mono (by first | decide | omega)) (by rfl) T.g_list T.F_list.kp T.b_list .nil pass0 (pa_cons (pe_slice sl_list (pv 3) po_none (po_some (pe_callB call_len_seq (by rfl) T.m_len (by decide +kernel) (pa_cons (pv 1) pa_nil)))) (pa_cons (pe_lc (own := [("_law_row", 4)]) (g := gName 4) (tt := tYes) (by rfl) sc_grown.nd (pi_list (pv 1)) (blkOk_by (own := [("_law_row", 4)]) (N := N_grown) (sc := defScope s_grown) (by decide +kernel)) (fun _ _ _ _ _ => pg_name (i := 4) sc_grown.nd rfl (Or.inl rfl)) (fun _ _ _ _ _ => pts_nil) (fun _ _ _ _ _ => (pe_ix (show IxR _ (rIxT K) from ix_tup) (pv 4) pe_int (fun _ _ => rfl)))) pa_nil)))))))) (pss_one (ps_ret pe_non)) pss_nil)
 (pss_cons (ps_for PassesOwn.never rfl (pi_list (pe_slice sl_list (pv 3) (po_some (pe_callB call_len_seq (by rfl) T.m_len (by decide +kernel) (pa_cons (pv 1) pa_nil))) po_none)) (pg_name (i := 5) sc_grown.nd rfl (.inr rfl)) (pss_cons (ps_if (PW.pt (pw_or (pt_not (pt_val (pe_call G_whole (hr.mono (by first | decide | omega)) (by rfl) T.g_whole T.F_whole.kp T.b_whole .nil pass0 (pa_cons (pv 5) pa_nil)))) (pw_or1 (pt_cmpR op_notIn_seq (pe_callB call_abs (by rfl) T.m_abs (by decide +kernel) (pa_cons (pv 5) pa_nil)) (pe_ix ix_list (pv 0) pe_int (fun _ _ => rfl)) rfl)))) (pss_one (ps_ret pe_non)) pss_nil)
 (pss_cons (ps_set (i := 6) sc_grown.nd rfl (.inl rfl) (pe_meth (pe_ix ix_list (pv 0) pe_int (fun _ _ => rfl)) T.cl_Trail T.M_Trail_reason_of G_Trail_reason_of (hr.mono (by first | decide | omega)) T.b_Trail_reason_of .nil X2.passN (pa_cons (pv 5) pa_nil)))
 (pss_cons (ps_if (PW.pt (pw_or (pt_not (pt_val (pe_call G_whole (hr.mono (by first | decide | omega)) (by rfl) T.g_whole T.F_whole.kp T.b_whole .nil pass0 (pa_cons (pv 6) pa_nil)))) (pw_or (pt_not (pt_chain op_le op_lt pe_int (pv 6) (pe_callB call_len_seq (by rfl) T.m_len (by decide +kernel) (pa_cons (pe_ix ix_list (pv 0) pe_int (fun _ _ => rfl)) pa_nil)))) (pw_or1 (pt_val (pe_ix ix_list (pe_ix ix_list (pv 0) pe_int (fun _ _ => rfl)) (pv 6) (fun _ _ => rfl))))))) (pss_one (ps_ret pe_non)) pss_nil)
 (pss_cons (ps_set (i := 7) sc_grown.nd rfl (.inr rfl) (pe_lc (own := [("_law_row", 4)]) (g := gName 4) (tt := tYes) (by rfl) sc_grown.nd (pi_list (pv 1)) (blkOk_by (own := [("_law_row", 4)]) (N := N_grown) (sc := defScope s_grown) (by decide +kernel)) (fun _ _ _ _ _ => pg_name (i := 4) sc_grown.nd rfl (Or.inl rfl)) (fun _ _ _ _ _ => pts_nil) (fun _ _ _ _ _ => (pe_ix (show IxR _ (rIxT K) from ix_tup) (pv 4) pe_int (fun _ _ => rfl)))))
 (pss_cons (ps_if (PW.pt (pw_or (pt_cmpR op_notIn_seq (pv 5) (pe_ix ix_list (pe_ix ix_list (pv 0) pe_int (fun _ _ => rfl)) (pv 6) (fun _ _ => rfl)) rfl) (pw_or (pt_cmpR op_in_seq (pv 5) (pv 7) rfl) (pw_or1 (pt_cmpR op_in_seq (pe_un un_neg (pv 5)) (pv 7) rfl))))) (pss_one (ps_ret pe_non)) pss_nil)
 (pss_cons (ps_if (pt_cmpR op_gt (pe_callB call_len_seq (by rfl) T.m_len (by decide +kernel) (pa_cons (pe_lc (own := [("_law_other", 8)]) (g := gName 8) (by rfl) sc_grown.nd (pi_tup (pe_ix ix_list (pe_ix ix_list (pv 0) pe_int (fun _ _ => rfl)) (pv 6) (fun _ _ => rfl))) (blkOk_by (own := [("_law_other", 8)]) (N := N_grown) (sc := defScope s_grown) (by decide +kernel)) (fun _ _ _ _ _ => pg_name (i := 8) sc_grown.nd rfl (Or.inl rfl)) (fun _ _ _ _ _ => pts_one (PW.pt (pw_and (pt_cmpR op_ne (pv 8) (pv 5) (nomark _)) (pw_and1 (pt_cmpR (show OpR _ _ (rIn K true) from op_notIn_seq) (pe_un un_neg (pv 8)) (pv 7) rfl))))) (fun _ _ _ _ _ => (pv 8))) pa_nil)) pe_int (nomark _)) (pss_one (ps_ret pe_non)) pss_nil)
 (pss_one (ps_expr (pe_bm PySem.F.plainAttrs_list PySem.F.slot_list_append PySem.F.type_list_append mt_append (pv 1) (pa_cons (pe_tup (pa_cons (pv 5) (pa_cons (pv 2) (pa_cons (pv 6) (pa_cons pe_bl pa_nil))))) pa_nil)))))))))))
 (pss_one (ps_ret (pv 1)))))))), ?_⟩
    refine Z.w_start (σ' := [some (.ref z.Sa), none, none, none, none, none, none, none, none]) rfl ?_
    walk_at "w"
    intro R hR
    have s1 := same_of (Same.refl H) hR (o := .lst z.us)
    have eR : upd H R (.lst z.us) R = some (.lst z.us) := upd_same
    generalize upd H R (.lst z.us) = H1 at s1 eR ⊢
    have so1 := so.same s1
    have hsa1 := so1.sa
    walk_at "w"
    refine ⟨z, rfl, so1, by omega, fun H2 s2 => ?_⟩
    have s02 := s1.trans s2
    have so2 := so.same s02
    have hsa2 := so2.sa
    walk_at "w"
    refine w_methF ?_
    walk_at "w"
    refine ⟨_, _, _, rfl, so2.ok.ta.obj, by rfl, ?_⟩
    walk_at "w"
    refine ⟨z.x.tr, z.x.t, z.x.ns, z.x.rs, rfl, so2.ok.ta, fun O hO => ?_⟩
    have s3 := s02.trans (same_of (Same.refl H2) hO (o := .lst ((lits z.x.rs).map V.int)))
    have s13 := s2.trans (same_of (Same.refl H2) hO (o := .lst ((lits z.x.rs).map V.int)))
    have eO : upd H2 O (.lst ((lits z.x.rs).map V.int)) O = some (.lst ((lits z.x.rs).map V.int)) := upd_same
    generalize upd H2 O (.lst ((lits z.x.rs).map V.int)) = H3 at s3 s13 eO ⊢
    have eR3 := s13 _ _ eR
    have so3 := so.same s3
    walk_at "w"
    have hl1 : ((lits z.x.rs).map V.int).length = z.x.rs.length := by rw [List.length_map]; exact lits_len _
    rw [hul]
    refine w_slTo (.inl (.inl eO)) (by omega) fun p1 f1 => ?_
    have s4 := same_of (Same.refl H3) f1 (o := .lst (((lits z.x.rs).map V.int).take z.rs.length))
    have e1 : upd H3 p1 (.lst (((lits z.x.rs).map V.int).take z.rs.length)) p1 = some (.lst (((lits z.x.rs).map V.int).take z.rs.length)) := upd_same
    generalize upd H3 p1 (.lst (((lits z.x.rs).map V.int).take z.rs.length)) = H4 at s4 e1 ⊢
    have eR4 := s4 _ _ eR3
    walk_at "w"
    intro D hD
    refine lcl (K := K) z.rs (fun r => some (V.int r.1)) hul (by omega) hD (.inl (.inl eR4)) ?_ ?_
    · rintro i x y H' acc N hx hy sm eD sz k1 k2
      obtain ⟨p, e1, e2⟩ := so3.rv.2 i _ hy
      rw [hx] at e1
      obtain rfl := Option.some.inj e1
      have ht := sm _ _ (s4 _ _ e2)
      refine Z.w_gname rfl ⟨rfl, ?_⟩
      walk_at "w"
      exact ⟨acc, eD, sz, k1 _ rfl⟩
    · intro H5 s5 eD
      have el : z.rs.filterMap (fun r => some (V.int r.1)) = (lits z.rs).map V.int := by
        rw [List.filterMap_eq_map']
        unfold lits
        rw [List.map_map]
        rfl
      rw [el] at eD
      have et : ((lits z.x.rs).map V.int).take z.rs.length = (lits z.rs).map V.int := by
        obtain ⟨r, hr⟩ := hpre
        rw [← hr]
        unfold lits
        rw [List.map_append, List.map_append, List.take_append_of_le_length (by rw [List.length_map, List.length_map]; exact Nat.le_refl _), List.take_of_length_le (by rw [List.length_map, List.length_map]; exact Nat.le_refl _)]
      rw [et] at e1
      have s35 := s4.trans s5
      have eR5 := s35 _ _ eR3
      have eO5 := s35 _ _ eO
      walk_at "w"
      refine use_list (s5 _ _ e1) eD (fun u hu => ?_) (by rw [List.length_map, lits_len]; omega) ?_
      · obtain ⟨y, _, rfl⟩ := List.mem_map.mp hu
        exact ⟨y, rfl⟩
      walk_at "w"
      rw [hul]
      refine w_slFrom (.inl (.inl eO5)) (by omega) fun p2 f2 => ?_
      have s6 := same_of (Same.refl H5) f2 (o := .lst (((lits z.x.rs).map V.int).drop z.rs.length))
      have e2 : upd H5 p2 (.lst (((lits z.x.rs).map V.int).drop z.rs.length)) p2 = some (.lst (((lits z.x.rs).map V.int).drop z.rs.length)) := upd_same
      generalize upd H5 p2 (.lst (((lits z.x.rs).map V.int).drop z.rs.length)) = H6 at s6 e2 ⊢
      have s06 := (s3.trans s35).trans s6
      have eR6 := s6 _ _ eR5
      walk_at "w"
      have npR : p2 ≠ R := fun e => by
        rw [e, eR5] at f2
        cases f2
      have np2 : H p2 = none := by
        cases e : H p2 with
        | none => rfl
        | some u =>
          have := (s3.trans s35) _ _ e
          rw [f2] at this
          cases this
      have rv6 := (so.same s06).rv
      refine for_list (K := K) (xs := ((lits z.x.rs).map V.int).drop z.rs.length) (fun i σ H' => ∃ x4 x5 x6 x7 x8 us, σ = [some (.ref z.Sa), some (.ref R), some (.int (dep z.rs : Int)), some (.ref O), x4, x5, x6, x7, x8] ∧ Same H H' ∧ H' R = some (.lst us) ∧ H' p2 = some (.lst (((lits z.x.rs).map V.int).drop z.rs.length)) ∧ RowsH H' us (z.x.rs.take (z.rs.length + i)) (hdG z.hd (z.rs.length + i))) ?_ ?_ ?_ ?_
      · refine ⟨_, _, _, _, _, z.us, rfl, s06, eR6, e2, ?_⟩
        obtain ⟨r, hr⟩ := hpre
        rw [← hr, Nat.add_zero, List.take_append_of_le_length (Nat.le_refl _), List.take_of_length_le (Nat.le_refl _), ← hdl, hdG_self]
        exact rv6
      · rintro i σ H' hi ⟨x4, x5, x6, x7, x8, us, rfl, sm, eu, ep, rv⟩
        exact .inl (.inl ep)
      · rintro i v σ H' hv ⟨x4, x5, x6, x7, x8, us, rfl, sm, eu, ep, rv⟩
        have so' := so.same sm
        have hsa' := so'.sa
        have han' := so'.an
        have hac' := so'.ac
        have haf' := so'.af
        rw [List.getElem?_drop, List.getElem?_map] at hv
        obtain ⟨l, hl, rfl⟩ := Option.map_eq_some_iff.mp hv
        obtain ⟨r, hr, rfl⟩ : ∃ r, z.x.rs[z.rs.length + i]? = some r ∧ r.1 = l := by
          unfold lits at hl
          rw [List.getElem?_map] at hl
          exact Option.map_eq_some_iff.mp hl
        obtain ⟨n, c, er2, hc, hg, hrc, hnb, hnn, hoth⟩ := gr.at (Nat.le_add_right _ _) hr
        have hlm : r.1 ∈ lits z.x.rs := List.mem_of_getElem? hl
        have hns := b.lit _ hlm
        have hnz := b.nz hns
        have ea : (if r.1 < 0 then -r.1 else r.1) = (r.1.natAbs : Int) := by split <;> omega
        have nodl : (lits z.x.rs).Nodup := by
          have := b.ti.nd
          rw [tl_lits, List.nodup_iff_pairwise_ne, List.pairwise_map] at this
          exact this.imp fun h e => h (by rw [e])
        walk_at "w"
        rw [ea]
        refine w_inI (.inl (.inl (.inl han'))) ?_
        rw [if_pos rfl, decide_eq_true hns]
        refine ⟨false, rfl, ?_⟩
        rw [if_neg (by decide)]
        walk_at "w"
        refine w_methF ?_
        walk_at "w"
        refine ⟨_, _, _, rfl, so'.ok.ta.obj, by rfl, ?_⟩
        walk_at "w"
        refine ⟨z.x.tr, z.x.t, z.x.ns, z.x.rs, r.1, rfl, so'.ok.ta, hnz.2, by omega, fun _ => ?_, fun q => absurd hns q⟩
        rw [atP_some (v := rV r.2) (plc_at nodl hr) (by rw [List.getElem?_map, hr]; rfl), er2]
        have nc : n < z.x.D.cs.length := by
          have := (List.getElem?_eq_some_iff.mp hc).1
          rwa [List.length_map] at this
        have hcl : (refs z.cs).length = z.x.D.cs.length := by unfold refs; rw [List.length_map, ecs]
        obtain ⟨ca, hca, hcS⟩ : ∃ a, atI (refs z.cs) (n : Int) = some (.ref a) ∧ SqT K H' a (c.map V.int) := by
          rw [← ecs, List.getElem?_map] at hc
          obtain ⟨p, hp, rfl⟩ := Option.map_eq_some_iff.mp hc
          exact ⟨p.1, atI_nat (by unfold refs; rw [List.getElem?_map, hp]; rfl), so'.ct p (List.mem_of_getElem? hp)⟩
        have afn : atI (z.fg.map V.bl) (n : Int) = some (.bl false) := by
          have hnf : n < z.fg.length := by rw [efg, b.fln]; exact nc
          have e1 : z.fg[n]? = some z.fg[n] := List.getElem?_eq_getElem hnf
          have e2 : z.fg.getD n false = z.fg[n] := by rw [List.getD_eq_getElem?_getD, e1]; rfl
          have hg2 : z.fg.getD n false = false := by rw [efg]; exact hg
          rw [hg2] at e2
          exact atI_nat (by rw [List.getElem?_map, e1, ← e2]; rfl)
        show gName _ (V.int (n : Int)) _ _ _
        have hsl : us.length = (z.x.rs.take (z.rs.length + i)).length := rv.1
        have htl : (z.x.rs.take (z.rs.length + i)).length ≤ 50 := by rw [List.length_take]; omega
        walk_at "w"
        intro D3 hD3
        refine lcl (K := K) (z.x.rs.take (z.rs.length + i)) (fun r => some (V.int r.1)) hsl (by omega) hD3 (.inl (.inl eu)) ?_ ?_
        · rintro j x y Hc acc N hx hy sc eD3 sz k1 k2
          obtain ⟨p, e1, e2⟩ := rv.2 j _ hy
          rw [hx] at e1
          obtain rfl := Option.some.inj e1
          have ht := sc _ _ e2
          refine Z.w_gname rfl ⟨rfl, ?_⟩
          walk_at "w"
          exact ⟨acc, eD3, sz, k1 _ rfl⟩
        · intro H7 s7 eB
          generalize hrt : z.x.rs.take (z.rs.length + i) = rt at eB rv hnb hnn hoth hsl htl
          have el2 : rt.filterMap (fun r => some (V.int r.1)) = (lits rt).map V.int := by
            rw [List.filterMap_eq_map']
            unfold lits
            rw [List.map_map]
            rfl
          rw [el2] at eB
          have hac7 := s7 _ _ hac'
          have hsa7 := s7 _ _ hsa'
          have hcS7 := Evl.ex_t s7 hcS
          have eu7 := s7 _ _ eu
          walk_at "w"
          refine w_inI (.inr hcS7) ?_
          rw [if_pos rfl, decide_eq_true hrc]
          refine ⟨false, rfl, ?_⟩
          rw [if_neg (by decide)]
          walk_at "w"
          refine w_inI (.inl (.inl (.inl eB))) ?_
          rw [if_neg (by decide), decide_eq_false hnb]
          refine ⟨false, rfl, ?_⟩
          rw [if_neg (by decide)]
          walk_at "w"
          refine w_inI (.inl (.inl (.inl eB))) ?_
          rw [if_neg (by decide), decide_eq_false hnn]
          refine ⟨false, rfl, ?_⟩
          rw [if_neg (by decide)]
          walk_at "w"
          intro D4 hD4
          have hcl4 := over_len b.nsl.1 (b.cl _ (cs_mem hc).2).1 (b.cl _ (cs_mem hc).2).2
          have hcl5 : c.length ≤ 100 := hcl4
          refine lct (K := K) c (fun _ => none) (List.length_map _) (Nat.le_trans hcl5 (by decide)) hD4 hcS7 ?_ ?_
          · rintro j v y Hc acc N hx hy sc eD4 sz k1 k2
            rw [List.getElem?_map, hy] at hx
            obtain rfl := Option.some.inj hx
            have eB2 := sc _ _ eB
            refine Z.w_gname rfl ⟨rfl, ?_⟩
            walk_at "w"
            by_cases ey : y = r.1
            · rw [if_neg (by rw [decide_eq_true (by rw [ey])]; decide), if_neg (by decide)]
              exact k2 rfl
            · rw [if_pos (by rw [decide_eq_false (fun q => ey (V.int.inj q))]; rfl)]
              walk_at "w"
              refine w_inI (.inl (.inl (.inl eB2))) ?_
              rw [if_pos rfl, decide_eq_true (hoth y (List.mem_of_getElem? hy) ey)]
              refine ⟨false, rfl, ?_⟩
              rw [if_neg (by decide)]
              exact k2 rfl
          · intro H8 s8 eE
            have e0 : List.filterMap (fun (_ : Int) => (none : Option V)) c = [] := by simp
            rw [e0] at eE
            have eu8 := s8 _ _ eu7
            walk_at "w"
            refine Z.w_bm ?_
            walk_at "w"
            refine ⟨.inl ⟨rfl, _, .inl (.inl eu8)⟩, ?_⟩
            walk_at "w"
            rename_i tt ftt
            have s9 := same_of (Same.refl H8) ftt (o := .tup [.int r.1, .int (dep z.rs : Int), .int (n : Int), .bl false])
            have ett : upd H8 tt (.tup [.int r.1, .int (dep z.rs : Int), .int (n : Int), .bl false]) tt = some (.tup [.int r.1, .int (dep z.rs : Int), .int (n : Int), .bl false]) := upd_same
            generalize upd H8 tt (.tup [.int r.1, .int (dep z.rs : Int), .int (n : Int), .bl false]) = H9 at s9 ett ⊢
            have sx := (s7.trans s8).trans s9
            have eu9 := s9 _ _ eu8
            refine ⟨R, us, _, rfl, rfl, eu9, Nat.lt_of_le_of_lt (show us.length ≤ 1000 by omega) (by decide), ?_⟩
            have nR : ∀ b, H b ≠ none → b ≠ R := fun b q e => q (by rw [e]; exact hR)
            have ntR : tt ≠ R := fun e => by
              rw [e] at ftt
              rw [ftt] at eu8
              cases eu8
            refine ⟨_, _, _, _, _, us ++ [.ref tt], rfl, same_mut (sm.trans sx) hR, upd_same, ?_, ?_⟩
            · rw [upd_ne npR]
              exact sx _ _ ep
            · have e10 : z.x.rs.take (z.rs.length + (i + 1)) = rt ++ [r] := by
                rw [← Nat.add_assoc, List.take_add_one, hr, hrt]
                rfl
              rw [e10]
              have rv9 := rv.tup (TupS.of sx)
              have rv10 : RowsH (upd H9 R (.lst (us ++ [.ref tt]))) us rt (hdG z.hd (z.rs.length + i)) := rv9.tup fun b xs e => by
                rw [upd_ne (fun q => by rw [q, eu9] at e; cases e)]
                exact e
              rw [← Nat.add_assoc, hdG_succ (by omega)]
              refine rv10.snoc (by have := (List.getElem?_eq_some_iff.mp hr).1; rw [hdG_len (by omega), ← hrt, List.length_take]; omega) ?_
              rw [upd_ne ntR, ett, er2]
              have ed : dep (rt ++ [r]) = dep z.rs := by
                have e11 : dep rt = dep z.rs := by
                  rw [← hrt]
                  have e12 : z.rs = z.x.rs.take z.rs.length := (List.prefix_iff_eq_take.mp hpre)
                  have ge := gr.dep
                  have l1 := dep_take_le z.x.rs (z.rs.length + i)
                  have l2 : dep z.rs ≤ dep (z.x.rs.take (z.rs.length + i)) := by
                    have e13 : z.x.rs.take z.rs.length = (z.x.rs.take (z.rs.length + i)).take z.rs.length := by rw [List.take_take, Nat.min_eq_left (by omega)]
                    have := dep_take_le (z.x.rs.take (z.rs.length + i)) z.rs.length
                    rw [← e13, ← e12] at this
                    exact this
                  omega
                have : r = (r.1, some (n : Int)) := by rw [← er2]
                rw [this, dep_force, e11]
              rw [ed]
              rfl
      · rintro σ H' ⟨x4, x5, x6, x7, x8, us, rfl, sm, eu, ep, rv⟩
        walk_at "w"
        refine h _ R us sm hR eu ?_
        rw [List.length_drop, hl1, Nat.add_sub_cancel' hple, List.take_of_length_le (Nat.le_refl _)] at rv
        exact rv
end
end L

namespace LND
open PySem PySem.Spec PyProof.Rows L2
def rLenD : List V → Hp → VK → Prop := fun xs H Q => ∃ p kvs, xs = [V.ref p] ∧ H p = some (.dK kvs) ∧ Q (.int (kvs.length : Int)) H
/-- len of a dict -/
theorem call_lenD {X : Cx} : CallR X (.builtin "len") rLenD := by
  intro pins s σ H xs us Q I r h
  obtain ⟨p, kvs, rfl, hd, q⟩ := h
  obtain ⟨u, rfl, rx⟩ := vals1 r
  cases rx
  obtain ⟨hz, hS, vs, rl, m⟩ := dk_of I.hok hd
  have hn := line63
  have hlen := rl.length
  exact call_len_dict hS m (by omega) ⟨.int kvs.length, H, I.tok _, ⟨s.toks + 1, by rw [hlen]⟩, q⟩
end LND

namespace L
open PySem PySem.Spec PyProof.Rows L2 Z M MR MT X2
open _root_.SX (S S_len S_cat S_inj)
theorem fm_lst (f : List Int) : ∀ c : List Int, c.filterMap (fun l => if -l ∈ f then none else some (V.int l)) = (UP.left c f).map V.int
  | [] => rfl
  | l :: c => by
    unfold UP.left
    by_cases e : -l ∈ f
    · rw [List.filterMap_cons_none (by rw [if_pos e]), fm_lst f c, List.filter_cons, if_neg (by simp [e])]
      rfl
    · rw [List.filterMap_cons_some (b := V.int l) (by rw [if_neg e]), fm_lst f c, List.filter_cons, if_pos (by simp [e])]
      rfl
section
variable {P : Program} {w : World} {K : PySem.W.Frag} {mg : Str → Option Value} {base : Heap}
def livz (z : SS) : List (List Int) := UP.liv (z.cs.map (·.2)) z.fg
def spClosure (K : PySem.W.Frag) (CT CW : Addr) (T : Tb) : Sp := fun vs H Q _ => ∃ (z : SS) (m : Nat), vs = [.ref z.Sa] ∧ SOk K CT CW T H z ∧ SInv z m ∧
  (∀ H', Same H H' → (∃ c ∈ livz z, ∀ l ∈ c, UP.Der (livz z) (hands z.rs z.hd) (-l)) → Q .non H') ∧
  (∀ (H' : Hp) (p : Addr) (fs : List Int), Same H H' → H p = none → H' p = some (.lst (fs.map V.int)) → fs.Nodup → fs.Pairwise (· ≤ ·) → (∀ x, x ∈ fs ↔ UP.Der (livz z) (hands z.rs z.hd) x) → (∀ c ∈ livz z, ∃ l ∈ c, ¬ UP.Der (livz z) (hands z.rs z.hd) (-l)) → Q (.ref p) H')
theorem ok_closure (T : Txt K mg) {Tt : Tb} : FnOk P w K mg base CX0 1 T.f_closure T.fd_closure ["_law_seat_here"] (spClosure K T.C_Trail T.C_Watching Tt) := by
  refine T.F_closure.ok sc_closure (fun vs H Q E h => ?_) (fun cdv A outer s H vs Q E hr h => ?_)
  · obtain ⟨z, m, rfl, _⟩ := h
    rfl
  · obtain ⟨z, m, rfl, so, si, h1, h2⟩ := h
    obtain ⟨k0, inv, _⟩ := si.inv
    have hsa := so.sa
    have har := so.ar
    have han := so.an
    have hul := so.rv.1
    have hrl := si.len
    have nl := inv.nsl.1
    have cap := si.cap
    have hs6 : atI z.line 6 = some (.ref z.Ar) := rfl
    have hs2 : atI z.line 2 = some (.ref z.An) := rfl
    have hs3 : atI z.line 3 = some (.ref z.Ac) := rfl
    have hs5 : atI z.line 5 = some (.ref z.Af) := rfl
    have hcl : (refs z.cs).length = z.x.D.cs.length := by unfold refs; rw [List.length_map, si.cs]
    have nodl : (lits z.rs).Nodup := si.tw.lits
    refine ⟨_, (pss_cons (ps_set (i := 1) sc_closure.nd rfl (.inr rfl) pe_dnewK)
 (pss_cons (ps_for PassesOwn.never rfl (pi_list (pe_ix ix_list (pv 0) pe_int (fun _ _ => rfl))) (pg_name (i := 2) sc_closure.nd rfl (.inl rfl)) (pss_one (ps_if (pt_val (pe_ix ix_tup (pv 2) pe_int (fun _ _ => rfl))) (pss_one (ps_dput (hu_of hr) (pv 1) (pe_ix ix_tup (pv 2) pe_int (fun _ _ => rfl)) pe_bl rfl)) pss_nil)))
 (pss_cons (ps_for PassesOwn.never rfl (pi_range1 (by rfl) T.m_range (pa_cons (pe_op op_add (pe_callB call_len_seq (by rfl) T.m_len (by decide +kernel) (pa_cons (pe_ix ix_list (pv 0) pe_int (fun _ _ => rfl)) pa_nil)) pe_int) pa_nil)) (pg_name (i := 3) sc_closure.nd rfl (.inl rfl)) (pss_cons (ps_set (i := 4) sc_closure.nd rfl (.inl rfl) (pe_callB (show CallR _ _ LND.rLenD from LND.call_lenD) (by rfl) T.m_len (by decide +kernel) (pa_cons (pv 1) pa_nil)))
 (pss_cons (ps_for PassesOwn.never rfl (pi_range1 (by rfl) T.m_range (pa_cons (pe_callB call_len_seq (by rfl) T.m_len (by decide +kernel) (pa_cons (pe_ix ix_list (pv 0) pe_int (fun _ _ => rfl)) pa_nil)) pa_nil)) (pg_name (i := 5) sc_closure.nd rfl (.inl rfl)) (pss_cons (ps_setLc (i := 6) (own := [("_law_literal", 7)]) (g := gName 7) (by rfl) sc_closure.nd rfl rfl (sw_true rfl rfl rfl (by decide +kernel)) (pi_tup (pe_ix ix_list (pe_ix ix_list (pv 0) pe_int (fun _ _ => rfl)) (pv 5) (fun _ _ => rfl))) (blkOk_by (own := [("_law_literal", 7)]) (N := N_closure) (sc := defScope s_closure) (by decide +kernel)) (fun _ _ _ _ _ => pg_name (i := 7) sc_closure.nd rfl (Or.inl rfl)) (fun _ _ _ _ _ => pts_one (pt_cmp (pc_dnotin (hu_of hr) (pe_un un_neg (pv 7)) (pv 1)))) (fun _ _ _ _ _ => (pv 7)))
 (pss_cons (ps_if (PW.pt (pw_and (pt_not (pt_val (pe_ix ix_list (pe_ix ix_list (pv 0) pe_int (fun _ _ => rfl)) (pv 5) (fun _ _ => rfl)))) (pw_and1 (pt_cmpR op_eq (pe_callB call_len_seq (by rfl) T.m_len (by decide +kernel) (pa_cons (pv 6) pa_nil)) pe_int (nomark _))))) (pss_one (ps_ret pe_non)) pss_nil)
 (pss_one (ps_if (PW.pt (pw_and (pt_not (pt_val (pe_ix ix_list (pe_ix ix_list (pv 0) pe_int (fun _ _ => rfl)) (pv 5) (fun _ _ => rfl)))) (pw_and1 (pt_cmpR op_eq (pe_callB call_len_seq (by rfl) T.m_len (by decide +kernel) (pa_cons (pv 6) pa_nil)) pe_int (nomark _))))) (pss_one (ps_dput (hu_of hr) (pv 1) (pe_ix ix_list (pv 6) pe_int (fun _ _ => rfl)) pe_bl rfl)) pss_nil)))))
 (pss_one (ps_if (pt_cmpR op_eq (pe_callB (show CallR _ _ LND.rLenD from LND.call_lenD) (by rfl) T.m_len (by decide +kernel) (pa_cons (pv 1) pa_nil)) (pv 4) (nomark _)) (pss_one ps_break) pss_nil)))))
 (pss_one (ps_ret (pe_callB cr_sorted (by rfl) T.m_sorted (by decide +kernel) (pa_cons (pe_callTy (call_listD rfl) (by rfl) T.m_list (by decide +kernel) (pa_cons (pv 1) pa_nil)) pa_nil))))))), ?_⟩
    refine Z.w_start (σ' := [some (.ref z.Sa), none, none, none, none, none, none, none]) rfl ?_
    walk_at "w"
    rename_i D hD
    have s0 := same_of (Same.refl H) hD (o := .dK [])
    refine for_list (K := K) (xs := z.us) (fun i σ H' => ∃ x2, σ = [some (.ref z.Sa), some (.ref D), x2, none, none, none, none, none] ∧ Same H H' ∧ H' D = some (.dK (kd (hands (z.rs.take i) (z.hd.take i))))) ?_ ?_ ?_ ?_
    · exact ⟨_, rfl, s0, upd_same⟩
    · rintro i σ H' hi ⟨x2, rfl, sm, _⟩
      exact .inl (.inl (sm _ _ har))
    · rintro i v σ H' hv ⟨x2, rfl, sm, eD⟩
      have hi : i < z.rs.length := by rw [← hul]; exact (List.getElem?_eq_some_iff.mp hv).1
      have hy : z.rs[i]? = some z.rs[i] := List.getElem?_eq_getElem hi
      obtain ⟨pr, e1, e2⟩ := so.rv.2 i _ hy
      rw [hv] at e1
      obtain rfl := Option.some.inj e1
      generalize z.rs[i] = r at hy e2
      have ht := sm _ _ e2
      have et : z.rs.take (i + 1) = z.rs.take i ++ [r] := by rw [List.take_add_one, hy]; rfl
      have hb1 : z.hd[i]? = some (z.hd.getD i false) := by
        have : i < z.hd.length := by rw [si.hdl]; exact hi
        rw [List.getD_eq_getElem?_getD, List.getElem?_eq_getElem this]
        rfl
      have eh : z.hd.take (i + 1) = z.hd.take i ++ [z.hd.getD i false] := by rw [List.take_add_one, hb1]; rfl
      walk_at "w"
      have nin : r.1 ∉ hands (z.rs.take i) (z.hd.take i) := fun zz => by
        have e1 : (lits z.rs)[i]? = some r.1 := by unfold lits; rw [List.getElem?_map, hy]; rfl
        have zz := hands_sub zz
        unfold lits at zz
        rw [List.map_take] at zz
        obtain ⟨j, hj⟩ := List.mem_iff_getElem?.mp zz
        rw [List.getElem?_take] at hj
        split at hj
        · have := (List.getElem?_inj (List.getElem?_eq_some_iff.mp hj).1 nodl).mp (hj.trans e1.symm)
          omega
        · cases hj
      have dl : (hands (z.rs.take i) (z.hd.take i)).length ≤ 50 := by
        unfold hands
        rw [List.length_map]
        exact Nat.le_trans (List.length_filter_le _ _) (by rw [List.length_zip, List.length_take]; omega)
      rw [et, eh, hands_snoc (by rw [List.length_take, List.length_take, si.hdl])]
      generalize z.hd.getD i false = bb at *
      cases bb with
      | false =>
        rw [if_neg (by decide)]
        exact ⟨_, rfl, sm, eD⟩
      | true =>
        rw [if_pos (by decide)]
        walk_at "w"
        refine ⟨D, _, rfl, DPut.k (k := Sum.inl r.1) eD (by rw [kd_len]; exact Nat.lt_of_le_of_lt (show _ ≤ 1000 by omega) (by decide)), ?_⟩
        refine ⟨_, rfl, same_mut sm hD, ?_⟩
        rw [upd_same, kd_put, if_neg nin]
        rfl
    · rintro σ H' ⟨x2, rfl, sm, eD⟩
      rw [hul, List.take_length, ← si.hdl, List.take_length] at eD
      have hsa' := sm _ _ hsa
      have han' := sm _ _ han
      -- the data
      have fln := inv.fln
      have lfl : z.fg.length = (z.cs.map (·.2)).length := by rw [List.length_map, si.fg, si.cs, fln]
      have lin : ∀ c ∈ livz z, ∃ cc ∈ z.x.D.cs, cc.2 = c := fun c hc => by
        obtain ⟨n, e1, _⟩ := (UP.liv_mem lfl).mp hc
        rw [si.cs, List.getElem?_map] at e1
        obtain ⟨cc, hcc, rfl⟩ := Option.map_eq_some_iff.mp e1
        exact ⟨cc, List.mem_of_getElem? hcc, rfl⟩
      have hn : ∀ c ∈ livz z, c.Nodup := fun c hc => by
        obtain ⟨cc, hcc, rfl⟩ := lin c hc
        exact (inv.cl cc hcc).1
      have ho : ∀ c ∈ livz z, ∀ l ∈ c, (l.natAbs : Int) ∈ z.x.ns := fun c hc => by
        obtain ⟨cc, hcc, rfl⟩ := lin c hc
        exact (inv.cl cc hcc).2
      have h0 : ∀ c ∈ livz z, ∀ l ∈ c, l ≠ 0 := fun c hc l hl => (inv.nz (ho c hc l hl)).1
      have hso : ∀ x ∈ hands z.rs z.hd, (x.natAbs : Int) ∈ z.x.ns := fun x hx => (si.lits x (hands_sub hx)).1
      have hover : ∀ f, UP.Good (livz z) (hands z.rs z.hd) f → ∀ x ∈ f, (x.natAbs : Int) ∈ z.x.ns := fun f g x hx => UP.der_over hso ho (g.der x hx)
      have hb : ∀ f, UP.Good (livz z) (hands z.rs z.hd) f → f.length ≤ z.x.ns.length := fun f g => UP.good_len g (hover f g) fun x hx => (inv.nz (hover f g x hx)).1
      have g0 : UP.Good (livz z) (hands z.rs z.hd) (hands z.rs z.hd) := by
        refine ⟨fun x hx => .base hx, fun x hx hm => ?_, ?_⟩
        · have e1 := hands_sub hx
          have e2 := hands_sub hm
          rw [si.rs] at e1 e2
          exact inv.ti.con (inv.nz (inv.lit x e1)).1 (by rw [tl_lits]; exact e1) (by rw [tl_lits]; exact e2)
        · exact hands_nd nodl
      have spec := UP.runs_spec hn h0 z.x.ns.length hb (z.x.ns.length + 1) g0 (fun x hx => hx) (by omega)
      walk_at "w"
      have nl2 : (z.x.ns.map V.int).length = z.x.ns.length := List.length_map _
      rw [nl2]
      refine ⟨by omega, by omega, ?_⟩
      have en : ((z.x.ns.length : Int) + 1).toNat = z.x.ns.length + 1 := by omega
      rw [en]
      generalize hN : z.x.ns.length + 1 = N at spec
      have hN1 : 1 ≤ N := by omega
      have hNl : N ≤ 51 := by omega
      have han2 := hN
      refine' (fun (tail : ∀ (x2 x3 x4 x5 x6 x7 : Option V) (H2 : Hp) (f : List Int), Same H H2 → H2 D = some (.dK (kd f)) → UP.runs (livz z) N (hands z.rs z.hd) = some f → UP.Good (livz z) (hands z.rs z.hd) f → (_ : Option V → Option V → Option V → Option V → Option V → Option V → Hp → Prop) x2 x3 x4 x5 x6 x7 H2) => _) _
      rotate_left
      · refine for_range (fun i σ H2 => ∃ x2 x3 x4 x5 x6 x7 f, σ = [some (.ref z.Sa), some (.ref D), x2, x3, x4, x5, x6, x7] ∧ Same H H2 ∧ H2 D = some (.dK (kd f)) ∧ UP.Good (livz z) (hands z.rs z.hd) f ∧ UP.runs (livz z) (N - i) f = UP.runs (livz z) N (hands z.rs z.hd)) ?h0 ?hs ?hd
        case hd =>
          rintro σ H2 ⟨x2, x3, x4, x5, x6, x7, f, rfl, sm2, eD2, gd, er⟩
          rw [Nat.sub_self] at er
          exact tail x2 x3 x4 x5 x6 x7 H2 f sm2 eD2 er.symm gd
        case h0 => exact ⟨_, _, _, _, _, _, hands z.rs z.hd, rfl, sm, eD, g0, by rw [Nat.sub_zero]⟩
        case hs =>
          rintro i σ H2 hi ⟨x2, x3, x4, x5, x6, x7, f, rfl, sm2, eD2, gd, er⟩
          have so2 := so.same sm2
          have hac2 := so2.ac
          have hsa2 := so2.sa
          have fl := hb f gd
          walk_at "w"
          refine ⟨D, kd f, rfl, eD2, ?_⟩
          rw [kd_len]
          walk_at "w"
          rw [hcl]
          refine ⟨by omega, by omega, ?_⟩
          have eni : N - i = (N - (i + 1)) + 1 := by omega
          have erun : UP.runs (livz z) (N - i) f = (UP.pass f (livz z)).bind fun f' => if f'.length = f.length then some f' else UP.runs (livz z) (N - (i + 1)) f' := by rw [eni]; rfl
          have eall : livz z = UP.liv ((z.cs.map (·.2)).take z.x.D.cs.length) (z.fg.take z.x.D.cs.length) := by
            unfold livz
            rw [List.take_of_length_le (by rw [List.length_map, si.cs]; exact Nat.le_refl _), List.take_of_length_le (by rw [si.fg, fln]; exact Nat.le_refl _)]
          refine for_range (fun k σ H3 => ∃ x5 x6 x7 g, σ = [some (.ref z.Sa), some (.ref D), x2, some (.int (0 + (i : Int))), some (.int (f.length : Int)), x5, x6, x7] ∧ Same H H3 ∧ H3 D = some (.dK (kd g)) ∧ UP.Good (livz z) (hands z.rs z.hd) g ∧ UP.pass f (UP.liv ((z.cs.map (·.2)).take k) (z.fg.take k)) = some g) ?i0 ?is ?id
          case id =>
            rintro σ H3 ⟨x5, x6, x7, g, rfl, sm3, eD3, gg, ep⟩
            have ep2 : UP.pass f (livz z) = some g := by
              rw [eall]
              first | exact ep | (rw [show ((z.x.D.cs.length : Int)).toNat = z.x.D.cs.length by omega] at ep; exact ep)
            rw [ep2] at erun
            walk_at "w"
            refine ⟨D, kd g, rfl, eD3, ?_⟩
            rw [kd_len]
            walk_at "w"
            have erun2 : UP.runs (livz z) (N - i) f = if g.length = f.length then some g else UP.runs (livz z) (N - (i + 1)) g := erun
            rw [er] at erun2
            by_cases hg : g.length = f.length
            · rw [decide_eq_true (by omega), if_pos rfl]
              rw [if_pos hg] at erun2
              exact tail _ _ _ _ _ _ H3 g sm3 eD3 erun2 gg
            · rw [decide_eq_false (by omega), if_neg (by decide)]
              rw [if_neg hg] at erun2
              exact ⟨_, _, _, _, _, _, g, rfl, sm3, eD3, gg, erun2.symm⟩
          case i0 => exact ⟨_, _, _, f, rfl, sm2, eD2, gd, rfl⟩
          case is =>
            rintro k σ H3 hk ⟨x5, x6, x7, g, rfl, sm3, eD3, gg, ep⟩
            have hk : k < z.x.D.cs.length := by omega
            have so3 := so.same sm3
            have hsa3 := so3.sa
            have hac3 := so3.ac
            have haf3 := so3.af
            have ec : z.x.D.cs[k]? = some z.x.D.cs[k] := List.getElem?_eq_getElem hk
            generalize z.x.D.cs[k] = cc at ec
            have ccm := List.mem_of_getElem? ec
            have hcS := so3.ct cc (by rw [si.cs]; exact ccm)
            have a1 : atI (refs z.cs) (0 + (k : Int)) = some (.ref cc.1) := by rw [Int.zero_add]; exact atI_nat (by unfold refs; rw [List.getElem?_map, si.cs, ec]; rfl)
            have hcl2 := over_len inv.nsl.1 (inv.cl cc ccm).1 (inv.cl cc ccm).2
            have hif : k < z.fg.length := by rw [si.fg, fln]; exact hk
            have ef : z.fg[k]? = some z.fg[k] := List.getElem?_eq_getElem hif
            generalize z.fg[k] = fb at ef
            have a2 : atI (z.fg.map V.bl) (0 + (k : Int)) = some (.bl fb) := by rw [Int.zero_add]; exact atI_nat (by rw [List.getElem?_map, ef]; rfl)
            have ec2 : (z.cs.map (·.2))[k]? = some cc.2 := by rw [si.cs, List.getElem?_map, ec]; rfl
            have elt := UP.liv_take ec2 ef
            have gl := hb g gg
            walk_at "w"
            intro D2 hD2
            refine lct (K := K) cc.2 (fun l => if -l ∈ g then none else some (V.int l)) (List.length_map _) (by omega) hD2 hcS ?_ ?_
            · rintro j v l Hc acc Nn hx hl sc eA sz k1 k2
              rw [List.getElem?_map, hl] at hx
              obtain rfl := Option.some.inj hx
              have eDc := sc _ _ eD3
              refine Z.w_gname rfl ⟨rfl, ?_⟩
              walk_at "w"
              refine ⟨D, _, rfl, DGet.k (k := Sum.inl (-l)) eDc, ?_⟩
              rw [kd_get]
              by_cases e : -l ∈ g
              · rw [if_pos e] at k2
                rw [decide_eq_true e]
                refine ⟨false, rfl, ?_⟩
                rw [if_neg (by decide)]
                exact k2 rfl
              · rw [if_neg e] at k1
                rw [decide_eq_false e]
                refine ⟨true, rfl, ?_⟩
                rw [if_pos rfl]
                walk_at "w"
                exact ⟨acc, eA, sz, k1 _ rfl⟩
            · intro H4 s4 eA
              rw [fm_lst] at eA
              have so4 := so3.same s4
              have hsa4 := so4.sa
              have haf4 := so4.af
              have eD4 := s4 _ _ eD3
              have sm4 := sm3.trans s4
              walk_at "w"
              cases fb with
              | true =>
                walk_at "w"
                refine ⟨_, _, _, g, rfl, sm4, eD4, gg, ?_⟩
                rw [elt, if_pos rfl, List.append_nil]
                exact ep
              | false =>
                rw [if_neg (by decide)] at elt
                have clv : cc.2 ∈ livz z := (UP.liv_mem lfl).mpr ⟨k, ec2, by rw [List.getD_eq_getElem?_getD, ef]; rfl⟩
                have estep : UP.pass f (UP.liv ((z.cs.map (·.2)).take (k + 1)) (z.fg.take (k + 1))) = UP.one g cc.2 := by
                  rw [elt, UP.pass_app, ep]
                  show (UP.one g cc.2).bind (fun f' => some f') = UP.one g cc.2
                  cases UP.one g cc.2 <;> rfl
                have hgood := fun f' e => UP.one_good clv (h0 _ clv) gg (f' := f') e
                walk_at "w"
                cases hlf : UP.left cc.2 g with
                | nil =>
                  have hone : UP.one g cc.2 = none := by unfold UP.one; rw [hlf]
                  have hpn : UP.pass f (livz z) = none := by
                    rw [show livz z = UP.liv ((z.cs.map (·.2)).take (k + 1)) (z.fg.take (k + 1)) ++ UP.liv ((z.cs.map (·.2)).drop (k + 1)) (z.fg.drop (k + 1)) from UP.liv_split _ _ _, UP.pass_app, estep, hone]
                    rfl
                  rw [hpn] at erun
                  have hrn : UP.runs (livz z) N (hands z.rs z.hd) = none := by rw [← er, erun]; rfl
                  rw [if_pos (by rfl)]
                  walk_at "w"
                  exact h1 _ sm4 (spec.2 hrn)
                | cons l r =>
                  cases r with
                  | nil =>
                    have hone : UP.one g cc.2 = some (if l ∈ g then g else g ++ [l]) := by unfold UP.one; rw [hlf]
                    rw [hlf] at eA
                    rw [if_neg (by simp)]
                    have a3 : atI ([l].map V.int) 0 = some (.int l) := rfl
                    walk_at "w"
                    refine ⟨D, _, rfl, DPut.k (k := Sum.inl l) eD4 (by rw [kd_len]; exact Nat.lt_of_le_of_lt (show _ ≤ 1000 by omega) (by decide)), ?_⟩
                    rw [kd_put]
                    exact ⟨_, _, _, _, rfl, same_mut sm4 hD, upd_same, hgood _ hone, by rw [estep, hone]⟩
                  | cons l2 r =>
                    have hone : UP.one g cc.2 = some g := by unfold UP.one; rw [hlf]
                    rw [hlf] at eA
                    rw [if_neg (by simp; omega)]
                    walk_at "w"
                    exact ⟨_, _, _, g, rfl, sm4, eD4, gg, by rw [estep, hone]⟩
      intro x2 x3 x4 x5 x6 x7 H2 f sm2 eD2 er gd
      obtain ⟨q1, q2, q3⟩ := spec.1 f er
      walk_at "w"
      refine ⟨D, kd f, rfl, .inl eD2, fun p hp => ?_⟩
      have ek : (kd f).map (fun kv => kV kv.1) = f.map V.int := by
        unfold kd
        rw [List.map_map]
        rfl
      rw [ek]
      have sp := same_of sm2 hp (o := .lst (f.map V.int))
      have ep : upd H2 p (.lst (f.map V.int)) p = some (.lst (f.map V.int)) := upd_same
      generalize upd H2 p (.lst (f.map V.int)) = H3 at sp ep ⊢
      have fl := hb f gd
      refine ⟨p, f, rfl, .inl (.inl ep), by omega, fun ns' p2 hperm hpw hp2 => ?_⟩
      have hpn : H p2 = none := by
        cases e : H p2 with
        | none => rfl
        | some u =>
          have := sp _ _ e
          rw [hp2] at this
          cases this
      exact h2 _ p2 ns' (sp.trans (same_of (Same.refl _) hp2)) hpn upd_same (hperm.nodup_iff.mpr q1) hpw (fun x => (hperm.mem_iff).trans (q2 x)) q3
end
end L

namespace L
open PySem PySem.Spec PyProof.Rows L2 Z M MR MT X2
open _root_.SX (S S_len S_cat S_inj)
/-- each row follows from the chosen ones -/
theorem sorted_same {a b : List Int} (pa : a.Pairwise (· ≤ ·)) (pb : b.Pairwise (· ≤ ·)) (na : a.Nodup) (nb : b.Nodup) (h : ∀ x, x ∈ a ↔ x ∈ b) : a = b := by
  have p : a.Perm b := (List.perm_ext_iff_of_nodup na nb).mpr h
  exact p.eq_of_pairwise (fun _ _ _ _ h1 h2 => Int.le_antisymm h1 h2) pa pb
section
variable {K : PySem.W.Frag} {CT CW : Addr} {T : Tb} {H H1 H2 : Hp} {z : SS} {y : WS} {p : Addr} {us : List V}
/-- behind a propagation: new rows, the mark -/
abbrev SS.prp (z : SS) (y : WS) (p : Addr) (us : List V) (b : Bool) : SS := { z with x := y, Ar := p, us := us, rs := y.rs, hd := hdG z.hd y.rs.length, pr := b }
theorem Go.prop (so : SOk K CT CW T H z) (d : DX T z.x.mut y.mut H H1) (ok1 : WOk K CT CW H1 y) (ex : Ext z.x y) (s : Same H1 H2) (hp : H1 p = none) (ep : H2 p = some (.lst us)) (rv : RowsH H2 us y.rs (hdG z.hd y.rs.length)) (b : Bool) :
    Go K CT CW T H (upd H2 z.Sa (.lst (z.prp y p us b).line)) z (z.prp y p us b) := by
  have g1 := Go.prog so d ok1 ex.tr ex.o ex.ns
  have g2 := Go.rows' (g1.so.same s) ((DX.refl _ _).same s) ep hp rv (g1.so.fresh hp)
  have g3 := Go.mark g2.so b
  rw [upd_upd] at g3
  exact g1.trans (g2.trans g3)
theorem prp_line (ex : Ext z.x y) (b : Bool) : (z.line.set 6 (.ref p)).set 7 (.bl b) = (z.prp y p us b).line := by
  show [V.ref z.x.tr, .ref z.x.o, .ref z.An, .ref z.Ac, .ref z.As, .ref z.Af, .ref p, .bl b, .ref z.Al] = [V.ref y.tr, .ref y.o, .ref z.An, .ref z.Ac, .ref z.As, .ref z.Af, .ref p, .bl b, .ref z.Al]
  rw [ex.tr, ex.o]
theorem SInv.prop {m k : Nat} (si : SInv z m) (ex : Ext z.x y) (inv : WInv y k) {b : Bool} (hb : b = true → k = y.rs.length ∧ y.D.fr = []) : SInv (z.prp y p us b) m := by
  refine ⟨⟨k, inv, hb⟩, si.cs.trans ex.cs.symm, ⟨si.so.1, si.so.2.1.trans ex.so.symm, by show y.D.so.length = y.D.cs.length; rw [ex.so, ex.cs]; exact si.so.2.2⟩, si.fg.trans ex.fg.symm, rfl, ?_, ?_, ?_, ?_⟩
  · show RInvH (y.D.cs.map (·.2)) y.D.fg y.rs (hdG z.hd y.rs.length)
    rw [ex.cs, ex.fg]
    exact si.rr.grow (by rw [si.hdl, si.rs]) ex.gr fun j r h1 h2 => ex.gr.at h1 h2
  · show (hdG z.hd y.rs.length).length = y.rs.length
    exact hdG_len (by rw [si.hdl, si.rs]; exact ex.gr.pre.length_le)
  · show y.D.cs.length ≤ m ∧ y.D.so.length ≤ m ∧ m ≤ 900
    rw [ex.cs, ex.so]
    exact si.cap
  · show z.lk = [] ∨ _ = y.ns
    rw [ex.ns]
    exact si.lk
end
theorem dps {K : PySem.W.Frag} {H : Hp} : ∀ ns : List Int, DpAll K H (ns.map V.int) (ns.map PyData.int)
  | [] => .nil
  | n :: ns => .cons (.int n) (dps ns)
theorem lay_ints : ∀ ns : List Int, PyData.canLayAll0 (ns.map PyData.int) = true
  | [] => rfl
  | n :: ns => by
    rw [List.map_cons, PyData.canLayAll0, lay_ints ns]
    rfl
theorem dep_ints : ∀ ns : List Int, PyData.depthAll (ns.map PyData.int) ≤ 1
  | [] => by simp [PyData.depthAll]
  | n :: ns => by
    have := dep_ints ns
    simp only [List.map_cons, PyData.depthAll, PyData.depth]
    omega
theorem shp_ints (ns : List Int) : SeqAt.shaped (.list (ns.map PyData.int)) = true := by
  have h1 := lay_ints ns
  have h2 := dep_ints ns
  unfold SeqAt.shaped
  simp [PyData.canLay0, PyData.depth, h1]
  omega
theorem eqv_ints : ∀ ns : List Int, PyData.eqvAll (ns.map PyData.int) (ns.map PyData.int) = true
  | [] => by simp [PyData.eqvAll]
  | n :: ns => by
    rw [List.map_cons, PyData.eqvAll, eqv_ints ns]
    simp [PyData.eqv]
theorem eq_ints {K : PySem.W.Frag} {a b : Addr} {ns : List Int} {H : Hp} {Q : VK} (ha : SqL K H a (ns.map V.int)) (hb : SqL K H b (ns.map V.int)) (q : Q (.bl true) H) : rEqD K (.ref a) (.ref b) H Q :=
  ⟨.list (ns.map .int), .list (ns.map .int), .lst ha (dps ns), .lst hb (dps ns), shp_ints ns, shp_ints ns, by
    rw [show PyData.eqv (.list (ns.map PyData.int)) (.list (ns.map PyData.int)) = true from by rw [PyData.eqv]; exact eqv_ints ns]
    exact q⟩
section
variable {P : Program} {w : World} {K : PySem.W.Frag} {mg : Str → Option Value} {base : Heap}
def spLProp (K : PySem.W.Frag) (CT CW : Addr) (T : Tb) : Sp := fun vs H Q _ => ∃ (z : SS) (m : Nat), vs = [.ref z.Sa] ∧ SOk K CT CW T H z ∧ SInv z m ∧ ∀ H' z', Step K CT CW T H H' z z' m → z'.x.D.cs = z.x.D.cs → Q (.bl true) H'
theorem ok_Lprop (T : Txt K mg) {Tt : Tb} : FnOk P w K mg base CX0 11 T.f_propagates T.fd_propagates ["_law_seat_here"] (spLProp K T.C_Trail T.C_Watching Tt) := by
  have G_Watching_propagate := ok_prop (P := P) (w := w) (base := base) T (Tt := Tt)
  have G_grown := ok_grown (P := P) (w := w) (base := base) T (Tt := Tt)
  have G_closure := ok_closure (P := P) (w := w) (base := base) T (Tt := Tt)
  have G_stands := ok_stands (P := P) (w := w) (base := base) T (Tt := Tt)
  have G_whole := ok_whole (P := P) (w := w) (base := base) T
  refine T.F_propagates.ok sc_propagates (fun vs H Q E h => ?_) (fun cdv A outer s H vs Q E hr h => ?_)
  · obtain ⟨z, m, rfl, _⟩ := h
    rfl
  · obtain ⟨z, m, rfl, so, si, h⟩ := h
    obtain ⟨k, inv, hk⟩ := si.inv
    have hsa := so.sa
    have hs1 : atI z.line 1 = some (.ref z.x.o) := rfl
    refine ⟨_, (pss_cons (ps_set (i := 1) sc_propagates.nd rfl (.inl rfl) (pe_meth0 (pe_ix ix_list (pv 0) pe_int (fun _ _ => rfl)) T.cl_Watching T.M_Watching_propagate G_Watching_propagate (hr.mono (by first | decide | omega)) T.b_Watching_propagate .nil pass0))
 (pss_cons (ps_set (i := 2) sc_propagates.nd rfl (.inl rfl) (pe_call G_grown (hr.mono (by first | decide | omega)) (by rfl) T.g_grown T.F_grown.kp T.b_grown .nil pass0 (pa_cons (pv 0) pa_nil)))
 (pss_cons (ps_if (pt_cmpR op_isN (pv 2) pe_non (nomark _)) (pss_one (ps_ret pe_bl)) pss_nil)
 (pss_cons (ps_asg (pv 2) (pg_sub (pv 0) pe_int set_list))
 (pss_cons (ps_asg (pe_cmpR op_isN (pv 1) pe_non (nomark _)) (pg_sub (pv 0) pe_int set_list))
 (pss_cons (ps_set (i := 3) sc_propagates.nd rfl (.inr rfl) (pe_lc (own := [("_law_row", 4)]) (g := gName 4) (tt := tYes) (by rfl) sc_propagates.nd (pi_list (pv 2)) (blkOk_by (own := [("_law_row", 4)]) (N := N_propagates) (sc := defScope s_propagates) (by decide +kernel)) (fun _ _ _ _ _ => pg_name (i := 4) sc_propagates.nd rfl (Or.inl rfl)) (fun _ _ _ _ _ => pts_nil) (fun _ _ _ _ _ => (pe_ix (show IxR _ (rIxT K) from ix_tup) (pv 4) pe_int (fun _ _ => rfl)))))
 (pss_cons (ps_set (i := 5) sc_propagates.nd rfl (.inl rfl) (pe_call G_closure (hr.mono (by first | decide | omega)) (by rfl) T.g_closure T.F_closure.kp T.b_closure .nil pass0 (pa_cons (pv 0) pa_nil)))
 (pss_cons (ps_if (pt_not (pt_val (pe_call G_stands (hr.mono (by first | decide | omega)) (by rfl) T.g_stands T.F_stands.kp T.b_stands .nil pass0 (pa_cons (pv 0) pa_nil)))) (pss_one (ps_ret pe_bl)) pss_nil)
 (pss_cons (ps_if (pt_cmpR op_notN (pv 5) pe_non (nomark _)) (pss_one (ps_ret (pe_and (pe_cmpR op_isN (pv 1) pe_non (nomark _)) (pe_one (pe_cmpR (op_eqD hr.units) (pe_callB cr_sorted (by rfl) T.m_sorted (by decide +kernel) (pa_cons (pv 3) pa_nil)) (pv 5) (nomark _)))))) pss_nil)
 (pss_cons (ps_if (PW.pt (pw_or (pt_not (pt_val (pe_call G_whole (hr.mono (by first | decide | omega)) (by rfl) T.g_whole T.F_whole.kp T.b_whole .nil pass0 (pa_cons (pv 1) pa_nil)))) (pw_or (pt_not (pt_chain op_le op_lt pe_int (pv 1) (pe_callB call_len_seq (by rfl) T.m_len (by decide +kernel) (pa_cons (pe_ix ix_list (pv 0) pe_int (fun _ _ => rfl)) pa_nil)))) (pw_or1 (pt_val (pe_ix ix_list (pe_ix ix_list (pv 0) pe_int (fun _ _ => rfl)) (pv 1) (fun _ _ => rfl))))))) (pss_one (ps_ret pe_bl)) pss_nil)
 (pss_one (ps_ret (pe_cmpR op_eq (pe_callB call_len_seq (by rfl) T.m_len (by decide +kernel) (pa_cons (pe_lc (own := [("_law_literal", 6)]) (g := gName 6) (by rfl) sc_propagates.nd (pi_tup (pe_ix ix_list (pe_ix ix_list (pv 0) pe_int (fun _ _ => rfl)) (pv 1) (fun _ _ => rfl))) (blkOk_by (own := [("_law_literal", 6)]) (N := N_propagates) (sc := defScope s_propagates) (by decide +kernel)) (fun _ _ _ _ _ => pg_name (i := 6) sc_propagates.nd rfl (Or.inl rfl)) (fun _ _ _ _ _ => pts_one (pt_cmpR (show OpR _ _ (rIn K true) from op_notIn_seq) (pe_un un_neg (pv 6)) (pv 3) rfl)) (fun _ _ _ _ _ => (pv 6))) pa_nil)) pe_int (nomark _)))))))))))))), ?_⟩
    refine Z.w_start (σ' := [some (.ref z.Sa), none, none, none, none, none, none]) rfl ?_
    walk_at "w"
    refine w_methF ?_
    walk_at "w"
    refine ⟨_, _, _, rfl, so.ok.wa.obj, by rfl, ?_⟩
    walk_at "w"
    refine ⟨z.x, k, rfl, so.ok, inv, fun H1 y d1 ok1 ex inv1 fr1 => ?_, fun H1 y n c k1 d1 ok1 ex inv1 hc hg hf => ?_⟩
    · have g1 := Go.prog so d1 ok1 ex.tr ex.o ex.ns
      have so1 := g1.so
      walk_at "w"
      refine ⟨{ z with x := y }, y.rs.length, rfl, so1, si.hdl, inv1.b, si.cs.trans ex.cs.symm, si.fg.trans ex.fg.symm, by show Grow (y.D.cs.map (·.2)) y.D.fg z.rs y.rs; rw [ex.cs, ex.fg, si.rs]; exact ex.gr, fun H2 p us s2 fp ep rv => ?_⟩
      have hsa2 := (so1.same s2).sa
      have g3 := Go.prop so d1 ok1 ex s2 fp ep rv true
      have si3 := SInv.prop (p := p) (us := us) si ex inv1 (b := true) fun _ => ⟨rfl, fr1⟩
      walk_at "w"
      have eL : ((SS.line { z with x := y }).set 6 (.ref p)).set 7 (.bl (decide True)) = (z.prp y p us true).line := rfl
      rw [eL]
      have so3 := g3.so
      have dr := inv1.derH fr1 si3.rr
      have el : livz (z.prp y p us true) = UP.liv y.cst y.D.fg := by unfold livz; rw [si3.cs, si3.fg]
      have ep3 : upd H2 z.Sa (.lst (z.prp y p us true).line) p = some (.lst us) := so3.ar
      generalize upd H2 z.Sa (.lst (z.prp y p us true).line) = H3 at g3 so3 ep3 ⊢
      have hul : us.length = y.rs.length := so3.rv.1
      have hrl : y.rs.length ≤ 50 := si3.len
      have hsa3 := so3.sa
      walk_at "w"
      refine ⟨⟨_, .inl (.inl ep3)⟩, ?_⟩
      intro D hD
      refine lcl (K := K) y.rs (fun r => some (V.int r.1)) hul (by omega) hD (.inl (.inl ep3)) ?_ ?_
      · rintro i x r H' acc N hx hy sm eD sz k1 k2
        obtain ⟨q, e1, e2⟩ := so3.rv.2 i _ hy
        rw [hx] at e1
        obtain rfl := Option.some.inj e1
        have ht := sm _ _ e2
        refine Z.w_gname rfl ⟨rfl, ?_⟩
        walk_at "w"
        exact ⟨acc, eD, sz, k1 _ rfl⟩
      intro Hk sk eD
      have elr : y.rs.filterMap (fun r => some (V.int r.1)) = (lits y.rs).map V.int := by
        rw [List.filterMap_eq_map']
        unfold lits
        rw [List.map_map]
        rfl
      rw [elr] at eD
      have sok := so3.same sk
      have hsak := sok.sa
      walk_at "w"
      refine ⟨z.prp y p us true, m, rfl, sok, si3, fun H4 s4 hd => ?_, fun H4 p4 fs s4 fp4 ep4 nd4 pw4 if4 no4 => ?_⟩
      · rw [el] at hd
        obtain ⟨c, hc, hall⟩ := hd
        obtain ⟨l, hl, hnl⟩ := dr.2 c hc
        exact absurd ((dr.1 (-l)).mpr (hall l hl)) hnl
      rw [el] at if4
      have so4 := sok.same s4
      have eD4 := s4 _ _ eD
      walk_at "w"
      refine ⟨z.prp y p us true, rfl, so4, rfl, si3.len, si3.tw, si3.lits, inv1.nsb, inv1.nsl.1, fun H5 s5 => ?_⟩
      have so5 := so4.same s5
      have eD5 := s5 _ _ eD4
      have ed5 := s5 _ _ ep4
      walk_at "w"
      refine ⟨D, lits y.rs, rfl, .inl (.inl eD5), by rw [lits_len]; omega, fun ns' p7 hperm hpw hp7 => ?_⟩
      have nodl : (lits y.rs).Nodup := si3.tw.lits
      have efs : ns' = fs := sorted_same hpw pw4 (hperm.nodup_iff.mpr nodl) nd4 fun x => (hperm.mem_iff).trans ((dr.1 x).trans (if4 x).symm)
      subst efs
      have s7 := same_of (Same.refl H5) hp7 (o := .lst (ns'.map V.int))
      have e7 : upd H5 p7 (.lst (ns'.map V.int)) p7 = some (.lst (ns'.map V.int)) := upd_same
      generalize upd H5 p7 (.lst (ns'.map V.int)) = H7 at s7 e7 ⊢
      have ed7 := s7 _ _ ed5
      walk_at "w"
      refine eq_ints (.inl (.inl e7)) (.inl (.inl ed7)) ?_
      exact h H7 (z.prp y p us true) ⟨g3.same ((((sk.trans s4).trans s5)).trans s7), si3, ex.ns, (by show y.t.dn = z.x.t.dn; rw [ex.t])⟩ ex.cs
    · have g1 := Go.prog so d1 ok1 ex.tr ex.o ex.ns
      have so1 := g1.so
      walk_at "w"
      refine ⟨{ z with x := y }, k1, rfl, so1, si.hdl, inv1.b, si.cs.trans ex.cs.symm, si.fg.trans ex.fg.symm, by show Grow (y.D.cs.map (·.2)) y.D.fg z.rs y.rs; rw [ex.cs, ex.fg, si.rs]; exact ex.gr, fun H2 p us s2 fp ep rv => ?_⟩
      have hsa2 := (so1.same s2).sa
      have g3 := Go.prop so d1 ok1 ex s2 fp ep rv false
      have si3 := SInv.prop (p := p) (us := us) si ex inv1 (b := false) fun q => by cases q
      walk_at "w"
      have eL : ((SS.line { z with x := y }).set 6 (.ref p)).set 7 (.bl (decide (V.int (n : Int) = V.non))) = (z.prp y p us false).line := by
        rw [decide_eq_false (fun q => by cases q)]
        rfl
      rw [eL]
      have so3 := g3.so
      have el : livz (z.prp y p us false) = UP.liv y.cst y.D.fg := by unfold livz; rw [si3.cs, si3.fg]
      have ep3 : upd H2 z.Sa (.lst (z.prp y p us false).line) p = some (.lst us) := so3.ar
      generalize upd H2 z.Sa (.lst (z.prp y p us false).line) = H3 at g3 so3 ep3 ⊢
      have hfl : y.D.fg.length = y.cst.length := by rw [inv1.fln]; exact (List.length_map _).symm
      have hc' : y.cst[n]? = some c := by rw [← hc]; exact congrArg (fun cs => (cs.map (·.2))[n]?) ex.cs
      have hg' : y.D.fg.getD n false = false := by rw [ex.fg]; exact hg
      have clv : c ∈ UP.liv y.cst y.D.fg := (UP.liv_mem hfl).mpr ⟨n, hc', hg'⟩
      have hul : us.length = y.rs.length := so3.rv.1
      have hrl : y.rs.length ≤ 50 := si3.len
      have hsa3 := so3.sa
      walk_at "w"
      refine ⟨⟨_, .inl (.inl ep3)⟩, ?_⟩
      intro D hD
      refine lcl (K := K) y.rs (fun r => some (V.int r.1)) hul (by omega) hD (.inl (.inl ep3)) ?_ ?_
      · rintro i x r H' acc N hx hy sm eD sz k1 k2
        obtain ⟨q, e1, e2⟩ := so3.rv.2 i _ hy
        rw [hx] at e1
        obtain rfl := Option.some.inj e1
        have ht := sm _ _ e2
        refine Z.w_gname rfl ⟨rfl, ?_⟩
        walk_at "w"
        exact ⟨acc, eD, sz, k1 _ rfl⟩
      intro Hk sk eD
      have elr : y.rs.filterMap (fun r => some (V.int r.1)) = (lits y.rs).map V.int := by
        rw [List.filterMap_eq_map']
        unfold lits
        rw [List.map_map]
        rfl
      rw [elr] at eD
      have sok := so3.same sk
      have hsak := sok.sa
      walk_at "w"
      refine ⟨z.prp y p us false, m, rfl, sok, si3, fun H4 s4 hd => ?_, fun H4 p4 fs s4 fp4 ep4 nd4 pw4 if4 no4 => ?_⟩
      · have so4 := sok.same s4
        have eD4 := s4 _ _ eD
        walk_at "w"
        refine ⟨z.prp y p us false, rfl, so4, rfl, si3.len, si3.tw, si3.lits, inv1.nsb, inv1.nsl.1, fun H5 s5 => ?_⟩
        have so6 := so4.same s5
        have eD6 := s5 _ _ eD4
        have hsa6 := so6.sa
        have hac6 := so6.ac
        have haf6 := so6.af
        have nc : n < y.D.cs.length := by
          have := (List.getElem?_eq_some_iff.mp hc').1
          rwa [List.length_map] at this
        have ecs : z.cs = y.D.cs := si3.cs
        have efg : z.fg = y.D.fg := si3.fg
        have hcl : (refs z.cs).length = y.D.cs.length := by unfold refs; rw [List.length_map, ecs]
        obtain ⟨ca, hca, hcS⟩ : ∃ a, atI (refs z.cs) (n : Int) = some (.ref a) ∧ SqT K H5 a (c.map V.int) := by
          have hc2 : (z.cs.map (·.2))[n]? = some c := by rw [ecs]; exact hc'
          rw [List.getElem?_map] at hc2
          obtain ⟨pp, hpp, rfl⟩ := Option.map_eq_some_iff.mp hc2
          exact ⟨pp.1, atI_nat (by unfold refs; rw [List.getElem?_map, hpp]; rfl), so6.ct pp (List.mem_of_getElem? hpp)⟩
        have afn : atI (z.fg.map V.bl) (n : Int) = some (.bl false) := by
          have hnf : n < z.fg.length := by rw [efg, inv1.fln]; exact nc
          have e1 : z.fg[n]? = some z.fg[n] := List.getElem?_eq_getElem hnf
          have e2 : z.fg.getD n false = z.fg[n] := by rw [List.getD_eq_getElem?_getD, e1]; rfl
          have hg2 : z.fg.getD n false = false := by rw [efg]; exact hg'
          rw [hg2] at e2
          exact atI_nat (by rw [List.getElem?_map, e1, ← e2]; rfl)
        walk_at "w"
        intro D3 hD3
        have hcl5 : c.length ≤ 100 := over_len inv1.nsl.1 (inv1.cl _ (cs_mem hc').2).1 (inv1.cl _ (cs_mem hc').2).2
        refine lct (K := K) c (fun _ => none) (List.length_map _) (Nat.le_trans hcl5 (by decide)) hD3 hcS ?_ ?_
        · rintro i x r H' acc N hx hy sm eA sz k1 k2
          rw [List.getElem?_map, hy] at hx
          obtain rfl := Option.some.inj hx
          have eD7 := sm _ _ eD6
          refine Z.w_gname rfl ⟨rfl, ?_⟩
          walk_at "w"
          refine w_inI (.inl (.inl (.inl eD7))) ?_
          rw [if_pos rfl, decide_eq_true (hf r (List.mem_of_getElem? hy))]
          refine ⟨false, rfl, ?_⟩
          rw [if_neg (by decide)]
          exact k2 rfl
        · intro H7 s7 eE
          have e0 : List.filterMap (fun (_ : Int) => (none : Option V)) c = [] := by simp
          rw [e0] at eE
          walk_at "w"
          refine h H7 (z.prp y p us false) ⟨g3.same (((sk.trans s4).trans s5).trans s7), si3, ex.ns, (by show y.t.dn = z.x.t.dn; rw [ex.t])⟩ ex.cs
      · rw [el] at if4 no4
        obtain ⟨l, hl, hnd⟩ := no4 c clv
        exact absurd (der_allH hfl si3.rr (hf l hl)) hnd
end
end L

namespace L
open PySem PySem.Spec PyProof.Rows L2 Z M MR MT X2
open _root_.SX (S S_len S_cat S_inj)
/-- behind a run of nodes that are all known, one isn't -/
theorem str_fin {ns : List Int} {s : Int} (h : ∀ i : Nat, i < ns.length → s + (i : Int) ∈ ns) : s + (ns.length : Int) ∉ ns := fun z => by
  have nd : ((List.range (ns.length + 1)).map fun i : Nat => s + (i : Int)).Nodup := by
    rw [List.nodup_iff_pairwise_ne, List.pairwise_map]
    exact List.pairwise_lt_range.imp fun h e => by omega
  have := WA.sub_len nd (ys := ns) fun a ha => by
    obtain ⟨i, hi, rfl⟩ := List.mem_map.mp ha
    have := List.mem_range.mp hi
    by_cases e : i < ns.length
    · exact h i e
    · rw [show i = ns.length by omega]
      exact z
  rw [List.length_map, List.length_range] at this
  omega
section
variable {P : Program} {w : World} {K : PySem.W.Frag} {mg : Str → Option Value} {base : Heap}
def spStr : Sp := fun vs H Q _ => ∃ (q a : Addr) (ns : List Int) (B : Int), vs = [.ref q, .ref a] ∧ PoolAt H q ∧ a ≠ q ∧ H a = some (.lst (ns.map V.int)) ∧ ns.length ≤ 100 ∧ (∀ n ∈ ns, 0 < n ∧ n < B) ∧ 4000 ≤ B ∧
  ∀ (r : Int) H', PX q H H' → r ∉ ns → 0 < r → r < B + 200 → Q (.int r) H'
theorem ok_stranger (T : Txt K mg) : FnOk P w K mg base CX0 2 T.f_stranger T.fd_stranger ["_law_pool_here", "_law_nodes"] spStr := by
  have G_take := ok_take (P := P) (w := w) (base := base) T
  refine T.F_stranger.ok sc_stranger (fun vs H Q E h => ?_) (fun cdv A outer s H vs Q E hr h => ?_)
  · obtain ⟨q, a, ns, B, rfl, _⟩ := h
    rfl
  · obtain ⟨q, a, ns, B, rfl, hp, naq, ea, hl, hb, hB, h⟩ := h
    have nl2 : (ns.map V.int).length = ns.length := List.length_map _
    refine ⟨_, (pss_cons (ps_set (i := 2) sc_stranger.nd rfl (.inl rfl) (pe_op op_add pe_int (pe_call G_take (hr.mono (by first | decide | omega)) (by rfl) T.g_take T.F_take.kp T.b_take .nil pass0 (pa_cons (pv 0) (pa_cons pe_int pa_nil)))))
 (pss_cons (ps_if (PW.pt (pw_and (pt_cmpR op_gt (pe_callB call_len_seq (by rfl) T.m_len (by decide +kernel) (pa_cons (pv 1) pa_nil)) pe_int (nomark _)) (pw_and1 (pt_cmpR op_eq (pe_call G_take (hr.mono (by first | decide | omega)) (by rfl) T.g_take T.F_take.kp T.b_take .nil pass0 (pa_cons (pv 0) (pa_cons pe_int pa_nil))) pe_int (nomark _))))) (pss_one (ps_set (i := 2) sc_stranger.nd rfl (.inl rfl) (pe_op op_add (pe_ix ix_list (pv 1) (pe_call G_take (hr.mono (by first | decide | omega)) (by rfl) T.g_take T.F_take.kp T.b_take .nil pass0 (pa_cons (pv 0) (pa_cons (pe_callB call_len_seq (by rfl) T.m_len (by decide +kernel) (pa_cons (pv 1) pa_nil)) pa_nil))) (fun _ _ => rfl)) pe_int))) pss_nil)
 (pss_cons (ps_for PassesOwn.never rfl (pi_range1 (by rfl) T.m_range (pa_cons (pe_callB call_len_seq (by rfl) T.m_len (by decide +kernel) (pa_cons (pv 1) pa_nil)) pa_nil)) (pg_name (i := 3) sc_stranger.nd rfl (.inl rfl)) (pss_one (ps_if (pt_cmpR op_notIn_seq (pe_op op_add (pv 2) (pv 3)) (pv 1) rfl) (pss_one (ps_ret (pe_op op_add (pv 2) (pv 3)))) pss_nil)))
 (pss_one (ps_ret (pe_op op_add (pv 2) (pe_callB call_len_seq (by rfl) T.m_len (by decide +kernel) (pa_cons (pv 1) pa_nil)))))))), ?_⟩
    refine Z.w_start (σ' := [some (.ref q), some (.ref a), none, none]) rfl ?_
    repeat' (first | with_reducible refine seqIf (fun σ' H' => ∃ s : Int, σ' = [some (.ref q), some (.ref a), some (.int s), none] ∧ PX q H H' ∧ 0 < s ∧ s < B + 1) (fun Rk kk => ?_) ?_ | walk_at "w1")
    · rename_i r H1 x1 r0 r1
      have pl1 := x1.pl
      have ea1 := x1.sx _ _ naq ea
      walk_at "w"
      by_cases e0 : 0 < ns.length
      · rw [decide_eq_true (show (0 : Int) < ((ns.map V.int).length : Int) by omega), if_pos rfl]
        walk_at "w"
        rename_i r2 H2 x2 r20 r21
        have pl2 := x2.pl
        have ea2 := x2.sx _ _ naq ea1
        by_cases e1 : r2 = 1
        · rw [decide_eq_true e1, if_pos rfl]
          walk_at "w"
          rename_i r3 H3 x3 r30 r31
          obtain ⟨r3, rfl⟩ := Int.eq_ofNat_of_zero_le r30
          have ea3 := x3.sx _ _ naq ea2
          have hr3 : r3 < ns.length := by omega
          have hx : ns[r3]? = some ns[r3] := List.getElem?_eq_getElem hr3
          generalize ns[r3] = n at hx
          have hnb := hb n (List.mem_of_getElem? hx)
          have hat : atI (ns.map V.int) (r3 : Int) = some (.int n) := atI_nat (by rw [List.getElem?_map, hx]; rfl)
          walk_at "w"
          exact kk _ _ ⟨n + 1, rfl, (x1.trans x2).trans x3, by omega, by omega⟩
        · rw [decide_eq_false e1, if_neg (by decide)]
          walk_at "w"
          exact kk _ _ ⟨1 + r, rfl, x1.trans x2, by omega, by omega⟩
      · rw [decide_eq_false (show ¬ (0 : Int) < ((ns.map V.int).length : Int) by omega), if_neg (by decide), if_neg (by decide)]
        walk_at "w"
        exact kk _ _ ⟨1 + r, rfl, x1, by omega, by omega⟩
    rintro σ' H1 ⟨s, rfl, x1, s0, s1⟩
    have ea1 := x1.sx _ _ naq ea
    walk_at "w"
    refine ⟨by omega, by omega, ?_⟩
    refine for_range (fun i σ H' => ∃ x3, σ = [some (.ref q), some (.ref a), some (.int s), x3] ∧ H' = H1 ∧ ∀ j : Nat, j < i → s + (j : Int) ∈ ns) ?_ ?_ ?_
    · exact ⟨_, rfl, rfl, fun j hj => by omega⟩
    · rintro i σ H2 hi ⟨x3, rfl, rfl, hall⟩
      have hi : i < ns.length := by omega
      walk_at "w"
      refine w_inI (.inl (.inl (.inl ea1))) ?_
      rw [Int.zero_add]
      by_cases e : s + (i : Int) ∈ ns
      · rw [if_pos rfl, decide_eq_true e]
        refine ⟨false, rfl, ?_⟩
        rw [if_neg (by decide)]
        refine ⟨_, rfl, rfl, fun j hj => ?_⟩
        by_cases e2 : j < i
        · exact hall j e2
        · rw [show j = i by omega]
          exact e
      · rw [if_pos rfl, decide_eq_false e]
        refine ⟨true, rfl, ?_⟩
        rw [if_pos rfl]
        walk_at "w"
        exact h _ _ x1 e (by omega) (by omega)
    · rintro σ H2 ⟨x3, rfl, rfl, hall⟩
      walk_at "w"
      rw [nl2]
      rw [nl2] at hall
      exact h _ _ x1 (str_fin hall) (by omega) (by omega)
end
end L

namespace L
open PySem PySem.Spec PyProof.Rows L2 Z M MR MT X2
open _root_.SX (S S_len S_cat S_inj)
/-- the first literal over another node -/
theorem bad_first {ns : List Int} : ∀ ms : List Int, (∃ y ∈ ms, (y.natAbs : Int) ∉ ns) → ∃ (l : Int) (j : Nat) (r : List V), ms.filterMap (fun y => if (y.natAbs : Int) ∈ ns then none else some (V.int y)) = V.int l :: r ∧ ms[j]? = some l ∧ (l.natAbs : Int) ∉ ns ∧ ∀ (i : Nat) (y : Int), i < j → ms[i]? = some y → (y.natAbs : Int) ∈ ns
  | [], ⟨y, hy, _⟩ => by cases hy
  | x :: ms, ⟨y, hy, hn⟩ => by
    by_cases e : (x.natAbs : Int) ∈ ns
    · have hy2 : y ∈ ms := by
        rcases List.mem_cons.mp hy with rfl | hy
        · exact absurd e hn
        · exact hy
      obtain ⟨l, j, r, h1, h2, h3, h4⟩ := bad_first ms ⟨y, hy2, hn⟩
      refine ⟨l, j + 1, r, ?_, h2, h3, fun i z hi hz => ?_⟩
      · rw [List.filterMap_cons_none (by rw [if_pos e])]
        exact h1
      · match i with
        | 0 =>
          obtain rfl : x = z := Option.some.inj hz
          exact e
        | i + 1 => exact h4 i z (by omega) hz
    · exact ⟨x, 0, _, List.filterMap_cons_some (by rw [if_neg e]), rfl, e, fun i z hi _ => by omega⟩
section
variable {P : Program} {w : World} {K : PySem.W.Frag} {mg : Str → Option Value} {base : Heap}
def spBadPut (K : PySem.W.Frag) (CT CW : Addr) (T : Tb) : Sp := fun vs H Q _ => ∃ (q : Addr) (z : SS) (m : Nat), vs = [.ref q, .ref z.Sa] ∧ PoolAt H q ∧ q ∉ z.all ∧ SOk K CT CW T H z ∧ SInv z m ∧ ∀ H', PX q H H' → Q (.bl true) H'
theorem ok_badput (T : Txt K mg) (TB : LamX.TabB base mg T.c_bw T.P_bw) : FnOk P w K mg base CX0 10 T.f_bad_put T.fd_bad_put ["_law_pool_here", "_law_seat_here"] (spBadPut K T.C_Trail T.C_Watching (T0 T)) := by
  have G_take := ok_take (P := P) (w := w) (base := base) T
  have G_clause := ok_clause (P := P) (w := w) (base := base) T (Tt := T0 T)
  have G_stranger := ok_stranger (P := P) (w := w) (base := base) T
  have G_refused := ok_refused (P := P) (w := w) (base := base) T TB
  have G_refused_base := ok_refusedB (P := P) (w := w) (base := base) T TB
  refine T.F_bad_put.ok sc_bad_put (fun vs H Q E h => ?_) (fun cdv A outer s H vs Q E hr h => ?_)
  · obtain ⟨q, z, m, rfl, _⟩ := h
    rfl
  · obtain ⟨q, z, m, rfl, hp, hq, so, si, h⟩ := h
    obtain ⟨k0, inv, _⟩ := si.inv
    have hs2 : atI z.line 2 = some (.ref z.An) := rfl
    have hs1 : atI z.line 1 = some (.ref z.x.o) := rfl
    have hnb := inv.nsb
    have hnl := inv.nsl.1
    refine ⟨_, (pss_cons (ps_set (i := 2) sc_bad_put.nd rfl (.inl rfl) (pe_callTy call_list_of (by rfl) T.m_list (by decide +kernel) (pa_cons (pe_call G_clause (hr.mono (by first | decide | omega)) (by rfl) T.g_clause T.F_clause.kp T.b_clause .nil pass0 (pa_cons (pv 0) (pa_cons (pv 1) pa_nil))) pa_nil)))
 (pss_cons (ps_set (i := 3) sc_bad_put.nd rfl (.inl rfl) (pe_callTy call_list_of (by rfl) T.m_list (by decide +kernel) (pa_cons (pe_ix ix_list (pv 1) pe_int (fun _ _ => rfl)) pa_nil)))
 (pss_cons (ps_for PassesOwn.never rfl (pi_range1 (by rfl) T.m_range (pa_cons (pe_op op_add pe_int (pe_call G_take (hr.mono (by first | decide | omega)) (by rfl) T.g_take T.F_take.kp T.b_take .nil pass0 (pa_cons (pv 0) (pa_cons pe_int pa_nil)))) pa_nil)) (pg_name (i := 4) sc_bad_put.nd rfl (.inl rfl)) (pss_cons (ps_set (i := 5) sc_bad_put.nd rfl (.inl rfl) (pe_call G_stranger (hr.mono (by first | decide | omega)) (by rfl) T.g_stranger T.F_stranger.kp T.b_stranger .nil pass0 (pa_cons (pv 0) (pa_cons (pv 3) pa_nil))))
 (pss_cons (ps_expr (pe_bm PySem.F.plainAttrs_list PySem.F.slot_list_append PySem.F.type_list_append mt_append (pv 3) (pa_cons (pv 5) pa_nil)))
 (pss_one (ps_expr (pe_bm PySem.F.plainAttrs_list PySem.F.slot_list_append PySem.F.type_list_append mt_append (pv 2) (pa_cons (pe_op op_sub (pv 5) (pe_op op_mul (pe_op op_mul pe_int (pv 5)) (pe_call G_take (hr.mono (by first | decide | omega)) (by rfl) T.g_take T.F_take.kp T.b_take .nil pass0 (pa_cons (pv 0) (pa_cons pe_int pa_nil))))) pa_nil)))))))
 (pss_cons (ps_set (i := 6) sc_bad_put.nd rfl (.inl rfl) (pe_callTy call_tuple_of (by rfl) T.m_tuple (by decide +kernel) (pa_cons (LK.pe_sortedAbsQ hr.units (by rfl) T.m_sorted (by rfl) T.m_abs (pv 2)) pa_nil)))
 (pss_cons (ps_set (i := 7) sc_bad_put.nd rfl (.inl rfl) (pe_ix ix_list (pe_lc (own := [("_law_literal", 8)]) (g := gName 8) (by rfl) sc_bad_put.nd (pi_tup (pv 6)) (blkOk_by (own := [("_law_literal", 8)]) (N := N_bad_put) (sc := defScope s_bad_put) (by decide +kernel)) (fun _ _ _ _ _ => pg_name (i := 8) sc_bad_put.nd rfl (Or.inl rfl)) (fun _ _ _ _ _ => pts_one (pt_cmpR (show OpR _ _ (rIn K true) from op_notIn_seq) (pe_callB call_abs (by rfl) T.m_abs (by decide +kernel) (pa_cons (pv 8) pa_nil)) (pe_ix (show IxR _ (rIxL K) from ix_list) (pv 1) pe_int (fun _ _ => rfl)) rfl)) (fun _ _ _ _ _ => (pv 8))) pe_int (fun _ _ => rfl)))
 (pss_cons (ps_if (pt_cmpR op_eq (pe_call G_take (hr.mono (by first | decide | omega)) (by rfl) T.g_take T.F_take.kp T.b_take .nil pass0 (pa_cons (pv 0) (pa_cons pe_int pa_nil))) pe_int (nomark _)) (pss_one (ps_ret (pe_call G_refused_base (hr.mono (by first | decide | omega)) (by rfl) T.g_refused_base T.F_refused_base.kp T.b_refused_base .nil pass0 (pa_cons (pe_ix ix_list (pv 1) pe_int (fun _ _ => rfl)) (pa_cons (pv 6) (pa_cons (pv 7) pa_nil)))))) pss_nil)
 (pss_one (ps_ret (pe_call G_refused (hr.mono (by first | decide | omega)) (by rfl) T.g_refused T.F_refused.kp T.b_refused .nil pass0 (pa_cons (pe_ix ix_list (pv 1) pe_int (fun _ _ => rfl)) (pa_cons (pv 6) (pa_cons (pv 7) pa_nil)))))))))))), ?_⟩
    refine Z.w_start (σ' := [some (.ref q), some (.ref z.Sa), none, none, none, none, none, none, none]) rfl ?_
    walk_at "w"
    refine ⟨q, z, m, rfl, hp, hq, so, si, fun a c H1 x1 hS co => ?_⟩
    have so1 := so.px hp hq x1
    have hsa1 := so1.sa
    have han1 := so1.an
    have pl1 := x1.pl
    walk_at "w"
    intro ln fln
    have px1 := x1.new fln (o := .lst (c.map V.int))
    have hln : H ln = none := fresh_px x1 hp fln
    have nlq : ln ≠ q := fun e => by
      obtain ⟨o, h1, _⟩ := pl1
      rw [← e, fln] at h1
      cases h1
    have eln : upd H1 ln (.lst (c.map V.int)) ln = some (.lst (c.map V.int)) := upd_same
    have so2 := so.px hp hq px1
    generalize upd H1 ln (.lst (c.map V.int)) = H2 at px1 eln so2 ⊢
    have hsa2 := so2.sa
    have han2 := so2.an
    walk_at "w"
    intro kn fkn
    have px2 := px1.new fkn (o := .lst (z.x.ns.map V.int))
    have hkn : H kn = none := fresh_px px1 hp fkn
    have nkq : kn ≠ q := fun e => by
      obtain ⟨o, h1, _⟩ := px1.pl
      rw [← e, fkn] at h1
      cases h1
    have nlk : ln ≠ kn := fun e => by
      rw [e, fkn] at eln
      cases eln
    have eln3 : upd H2 kn (.lst (z.x.ns.map V.int)) ln = some (.lst (c.map V.int)) := upd_of fkn eln
    have ekn3 : upd H2 kn (.lst (z.x.ns.map V.int)) kn = some (.lst (z.x.ns.map V.int)) := upd_same
    generalize upd H2 kn (.lst (z.x.ns.map V.int)) = H3 at px2 eln3 ekn3 ⊢
    have pl3 := px2.pl
    walk_at "w"
    rename_i r4 H4 x4 r40 r41
    have px4 := px2.trans x4
    have eln4 := x4.sx _ _ nlq eln3
    have ekn4 := x4.sx _ _ nkq ekn3
    refine ⟨by omega, by omega, ?_⟩
    have en : ∃ N : Nat, (1 + r4).toNat = N ∧ 0 < N ∧ N ≤ 2 := ⟨_, rfl, by omega, by omega⟩
    obtain ⟨N, eN, hN0, hN2⟩ := en
    rw [eN]
    refine for_range (fun i σ H' => ∃ (x4 x5 : Option V) (ms ks : List Int), σ = [some (.ref q), some (.ref z.Sa), some (.ref ln), some (.ref kn), x4, x5, none, none, none] ∧ PX q H H' ∧ H' ln = some (.lst (ms.map V.int)) ∧ H' kn = some (.lst (ks.map V.int)) ∧ (∀ y ∈ ms, y.natAbs < 10 ^ 10) ∧ ms.length ≤ 100 + i ∧ (0 < i → ∃ y ∈ ms, (y.natAbs : Int) ∉ z.x.ns) ∧ ks.length ≤ 50 + i ∧ (∀ n ∈ ks, 0 < n ∧ n < 10 ^ 9 + 200 * i) ∧ ∀ n ∈ z.x.ns, n ∈ ks) ?_ ?_ ?_
    · refine ⟨_, _, c, z.x.ns, rfl, px4, eln4, ekn4, fun y hy => ?_, ?_, fun e => by omega, by omega, fun n hn => ?_, fun n hn => hn⟩
      · have := hnb _ (co.2.1 y hy)
        omega
      · have := co.2.2
        omega
      · have := hnb _ hn
        omega
    · rintro i σ H5 hi ⟨x4, x5, ms, ks, rfl, px5, em, ek, hmb, hml, hbad, hkl, hkb, hsub⟩
      have pl5 := px5.pl
      walk_at "w"
      refine ⟨q, kn, ks, 10 ^ 9 + 200 * i, rfl, pl5, nkq, ek, by omega, hkb, by omega, fun r H6 x6 rn r0 r1 => ?_⟩
      have px6 := px5.trans x6
      have em6 := x6.sx _ _ nlq em
      have ek6 := x6.sx _ _ nkq ek
      walk_at "w"
      refine Z.w_bm ?_
      walk_at "w"
      refine ⟨.inl ⟨rfl, _, .inl (.inl ek6)⟩, ?_⟩
      walk_at "w"
      refine ⟨kn, _, _, rfl, rfl, ek6, by rw [List.length_map]; exact Nat.lt_of_le_of_lt (show ks.length ≤ 1000 by omega) (by decide), ?_⟩
      have ekk : ks.map V.int ++ [V.int r] = (ks ++ [r]).map V.int := by rw [List.map_append]; rfl
      rw [ekk]
      have px7 := px6.mutN hkn nkq (o := .lst ((ks ++ [r]).map V.int))
      have ek7 : upd H6 kn (.lst ((ks ++ [r]).map V.int)) kn = some (.lst ((ks ++ [r]).map V.int)) := upd_same
      have em7 : upd H6 kn (.lst ((ks ++ [r]).map V.int)) ln = some (.lst (ms.map V.int)) := by rw [upd_ne nlk]; exact em6
      generalize upd H6 kn (.lst ((ks ++ [r]).map V.int)) = H7 at px7 ek7 em7 ⊢
      have pl7 := px7.pl
      walk_at "w"
      refine Z.w_bm ?_
      walk_at "w"
      refine ⟨.inl ⟨rfl, _, .inl (.inl em7)⟩, ?_⟩
      walk_at "w"
      rename_i r8 H8 x8 r80 r81
      have em8 := x8.sx _ _ nlq em7
      have ek8 := x8.sx _ _ nkq ek7
      refine ⟨ln, _, _, rfl, rfl, em8, by rw [List.length_map]; exact Nat.lt_of_le_of_lt (show ms.length ≤ 1000 by omega) (by decide), ?_⟩
      have hya : ((r - 2 * r * r8).natAbs : Int) = r := by
        rcases (show r8 = 0 ∨ r8 = 1 by omega) with rfl | rfl <;> omega
      generalize r - 2 * r * r8 = yy at hya ⊢
      have emm : ms.map V.int ++ [V.int yy] = (ms ++ [yy]).map V.int := by rw [List.map_append]; rfl
      rw [emm]
      have px9 := (px7.trans x8).mutN hln nlq (o := .lst ((ms ++ [yy]).map V.int))
      refine ⟨_, _, ms ++ [yy], ks ++ [r], rfl, px9, upd_same, by rw [upd_ne nlk.symm]; exact ek8, fun y hy => ?_, by rw [List.length_append, List.length_singleton]; omega, fun _ => ⟨yy, by simp, ?_⟩, by rw [List.length_append, List.length_singleton]; omega, fun n hn => ?_, fun n hn => List.mem_append_left _ (hsub n hn)⟩
      · rcases List.mem_append.mp hy with hy | hy
        · exact hmb y hy
        · rw [List.mem_singleton.mp hy]
          omega
      · rw [hya]
        exact fun zz => rn (hsub _ zz)
      · rcases List.mem_append.mp hn with hn | hn
        · have := hkb n hn
          omega
        · rw [List.mem_singleton.mp hn]
          omega
    · rintro σ H5 ⟨x4, x5, ms, ks, rfl, px5, em, ek, hmb, hml, hbad, hkl, hkb, hsub⟩
      walk_at "w"
      refine (?_ : tCons _ _ _ _ _)
      walk_at "w"
      refine ⟨ln, ms, rfl, .inl (.inl (.inl em)), by omega, fun p6 f6 => ?_⟩
      have hperm : (ms.mergeSort fun x y => decide (X1.absK x ≤ X1.absK y)).Perm ms := List.mergeSort_perm ms _
      generalize (ms.mergeSort fun x y => decide (X1.absK x ≤ X1.absK y)) = ms' at hperm ⊢
      have px6 := px5.new f6 (o := .lst (ms'.map V.int))
      walk_at "w"
      refine ⟨p6, _, rfl, .inl ⟨.inl (.inl upd_same), fun p7 f7 => ?_⟩⟩
      have px7 := px6.new f7 (o := .tup (ms'.map V.int))
      have hS7 : SqT K (upd (upd H5 p6 (.lst (ms'.map V.int))) p7 (.tup (ms'.map V.int))) p7 (ms'.map V.int) := .inl (.inl upd_same)
      generalize upd (upd H5 p6 (.lst (ms'.map V.int))) p7 (.tup (ms'.map V.int)) = H7 at px7 hS7 ⊢
      have so7 := so.px hp hq px7
      have hsa7 := so7.sa
      have han7 := so7.an
      have pl7 := px7.pl
      obtain ⟨l, j, rest, h1, h2, h3, h4⟩ := bad_first (ns := z.x.ns) ms' (by obtain ⟨y, hy, hn⟩ := hbad hN0; exact ⟨y, hperm.mem_iff.mpr hy, hn⟩)
      have hbd : Bad z.x.ns ms' l := ⟨by rw [hperm.length_eq]; omega, fun y hy => Nat.lt_trans (hmb y (hperm.mem_iff.mp hy)) (by decide), j, h2, h3, h4⟩
      walk_at "w"
      intro D hD
      refine lct (K := K) ms' (fun y => if (y.natAbs : Int) ∈ z.x.ns then none else some (V.int y)) (List.length_map _) (by rw [hperm.length_eq]; omega) hD hS7 ?_ ?_
      · rintro i v y H' acc N hx hy sm eD sz k1 k2
        rw [List.getElem?_map, hy] at hx
        obtain rfl := Option.some.inj hx
        have hsa' := sm _ _ hsa7
        have han' := sm _ _ han7
        refine Z.w_gname rfl ⟨rfl, ?_⟩
        walk_at "w"
        have ea : (if y < 0 then -y else y) = (y.natAbs : Int) := by split <;> omega
        rw [ea]
        refine w_inI (.inl (.inl (.inl han'))) ?_
        rw [if_pos rfl]
        by_cases e : (y.natAbs : Int) ∈ z.x.ns
        · rw [if_pos e] at k2
          rw [decide_eq_true e]
          refine ⟨false, rfl, ?_⟩
          rw [if_neg (by decide)]
          exact k2 rfl
        · rw [if_neg e] at k1
          rw [decide_eq_false e]
          refine ⟨true, rfl, ?_⟩
          rw [if_pos rfl]
          walk_at "w"
          exact ⟨acc, eD, sz, k1 _ rfl⟩
      · intro H8 s8 eD
        rw [h1] at eD
        have a0 : atI (V.int l :: rest) 0 = some (.int l) := show atI (V.int l :: rest) ((0 : Nat) : Int) = _ from atI_nat rfl
        have pl8 := pl7.same s8
        walk_at "w"
        rename_i r9 H9 x9 r90 r91
        have so9 := (so7.same s8).px pl8 hq x9
        have hsa9 := so9.sa
        have hS9 : SqT K H9 p7 (ms'.map V.int) := by
          have := Evl.ex_t s8 hS7
          obtain ⟨xsq, eq⟩ := pool_lst pl8
          exact sqT_lst eq x9.sx this
        have px9 : PX q H H9 := (px7.same s8).trans x9
        by_cases e9 : r9 = 1
        · rw [decide_eq_true e9, if_pos rfl]
          walk_at "w"
          refine ⟨z.x, k0, p7, ms', l, rfl, so9.ok, inv, hS9, hbd, fun HA sA => ?_⟩
          exact h _ (px9.same sA)
        · rw [decide_eq_false e9, if_neg (by decide)]
          walk_at "w"
          refine ⟨z.x, k0, p7, ms', l, rfl, so9.ok, inv, hS9, hbd, fun HA sA => ?_⟩
          exact h _ (px9.same sA)
end
end L

namespace L
open PySem PySem.Spec PyProof.Rows L2 Z M MR MT X2
open _root_.SX (S S_len S_cat S_inj)
section
variable {P : Program} {w : World} {K : PySem.W.Frag} {mg : Str → Option Value} {base : Heap}
theorem putOk_zero {rs : List TRow} {c : List Int} (h : dep rs = 0) : WA.PutOk (tl rs) (dep rs) c := ⟨fun _ => h, .inl h⟩
def spWCl (K : PySem.W.Frag) (CT CW : Addr) : Sp := fun vs H Q _ => ∃ (x : WS) (n : Nat) (c : Addr × List Int), vs = [.ref x.o, .int (n : Int)] ∧ WOk K CT CW H x ∧ x.D.cs[n]? = some c ∧ Q (.ref c.1) H
theorem ok_wclause (T : Txt K mg) : FnOk P w K mg base CX0 1 T.f_Watching_clause T.fd_Watching_clause ["self", "number"] (spWCl K T.C_Trail T.C_Watching) := by
  refine T.F_Watching_clause.ok sc_Watching_clause (fun vs H Q E h => ?_) (fun cdv A outer s H vs Q E hr h => ?_)
  · obtain ⟨x, n, ws, rfl, _⟩ := h
    rfl
  · obtain ⟨x, n, c, rfl, ok, hn, h⟩ := h
    have ha : atI (x.D.cs.map fun c => V.ref c.1) (n : Int) = some (.ref c.1) := atI_nat (by rw [List.getElem?_map, hn]; rfl)
    have hcl := ok.wa.cl
    refine ⟨_, (pss_one (ps_ret (pe_ix ix_list (pe_fld (pv 0) rfl) (pv 1) (fun _ _ => rfl)))), ?_⟩
    refine Z.w_start (σ' := [some (.ref x.o), some (.int (n:Int))]) rfl ?_
    walk_at "w"
    refine w_fldT T.cl_Watching T.n_Watching__clauses ok.wa.obj rfl ?_
    walk_at "w"
    exact h
def spWSo (K : PySem.W.Frag) (CT CW : Addr) : Sp := fun vs H Q _ => ∃ (x : WS) (n : Nat) (s : Int), vs = [.ref x.o, .int (n : Int)] ∧ WOk K CT CW H x ∧ x.D.so[n]? = some s ∧ Q (.int s) H
theorem ok_wsource (T : Txt K mg) : FnOk P w K mg base CX0 1 T.f_Watching_source T.fd_Watching_source ["self", "number"] (spWSo K T.C_Trail T.C_Watching) := by
  refine T.F_Watching_source.ok sc_Watching_source (fun vs H Q E h => ?_) (fun cdv A outer s H vs Q E hr h => ?_)
  · obtain ⟨x, n, ws, rfl, _⟩ := h
    rfl
  · obtain ⟨x, n, s, rfl, ok, hn, h⟩ := h
    have ha : atI (x.D.so.map V.int) (n : Int) = some (.int s) := atI_nat (by rw [List.getElem?_map, hn]; rfl)
    have hcl := ok.wa.so
    refine ⟨_, (pss_one (ps_ret (pe_ix ix_list (pe_fld (pv 0) rfl) (pv 1) (fun _ _ => rfl)))), ?_⟩
    refine Z.w_start (σ' := [some (.ref x.o), some (.int (n:Int))]) rfl ?_
    walk_at "w"
    refine w_fldT T.cl_Watching T.n_Watching__sources ok.wa.obj rfl ?_
    walk_at "w"
    exact h
def spWSz (K : PySem.W.Frag) (CT CW : Addr) : Sp := fun vs H Q _ => ∃ (x : WS), vs = [.ref x.o] ∧ WOk K CT CW H x ∧ Q (.int (x.D.cs.length : Int)) H
theorem ok_wsize (T : Txt K mg) : FnOk P w K mg base CX0 1 T.f_Watching_size T.fd_Watching_size ["self"] (spWSz K T.C_Trail T.C_Watching) := by
  refine T.F_Watching_size.ok sc_Watching_size (fun vs H Q E h => ?_) (fun cdv A outer s H vs Q E hr h => ?_)
  · obtain ⟨x, rfl, _⟩ := h
    rfl
  · obtain ⟨x, rfl, ok, h⟩ := h
    have hcl := ok.wa.cl
    refine ⟨_, (pss_one (ps_ret (pe_callB call_len_seq (by rfl) T.m_len (by decide +kernel) (pa_cons (pe_fld (pv 0) rfl) pa_nil)))), ?_⟩
    refine Z.w_start (σ' := [some (.ref x.o)]) rfl ?_
    walk_at "w"
    refine w_fldT T.cl_Watching T.n_Watching__clauses ok.wa.obj rfl ?_
    walk_at "w"
    rw [List.length_map]
    exact h
def spLPut (K : PySem.W.Frag) (CT CW : Addr) (T : Tb) : Sp := fun vs H Q _ => ∃ (q : Addr) (z : SS) (m : Nat), vs = [.ref q, .ref z.Sa] ∧ PoolAt H q ∧ q ∉ z.all ∧ SOk K CT CW T H z ∧ SInv z m ∧ m < 900 ∧ dep z.x.rs = 0 ∧
  ∀ H' z', StepQ K CT CW T q H H' z z' (m + 1) → z'.x.rs = z.x.rs → z'.pr = false → z'.x.D.cs.length = z.x.D.cs.length + 1 → Q (.bl true) H'
theorem ok_Lput (T : Txt K mg) (TB : LamX.TabB base mg T.c_bw T.P_bw) : FnOk P w K mg base CX0 11 T.f_put T.fd_put ["_law_pool_here", "_law_seat_here"] (spLPut K T.C_Trail T.C_Watching (T0 T)) := by
  have G_take := ok_take (P := P) (w := w) (base := base) T
  have G_bad_put := ok_badput (P := P) (w := w) (base := base) T TB
  have G_clause := ok_clause (P := P) (w := w) (base := base) T (Tt := T0 T)
  have G_Watching_size := ok_wsize (P := P) (w := w) (base := base) T
  have G_Watching_put := ok_wput (P := P) (w := w) (base := base) T TB
  have G_watched := ok_Lwatched (P := P) (w := w) (base := base) T (Tt := T0 T)
  have G_alike := ok_alike (P := P) (w := w) (base := base) T
  refine T.F_put.ok sc_put (fun vs H Q E h => ?_) (fun cdv A outer s H vs Q E hr h => ?_)
  · obtain ⟨q, z, m, rfl, _⟩ := h
    rfl
  · obtain ⟨q, z, m, rfl, hp, hq, so, si, hm, hd0, h⟩ := h
    obtain ⟨k, inv, _⟩ := si.inv
    have hsa := so.sa
    have hac := so.ac
    have hs3 : atI z.line 3 = some (.ref z.Ac) := rfl
    have hs4 : atI z.line 4 = some (.ref z.As) := rfl
    have hs5 : atI z.line 5 = some (.ref z.Af) := rfl
    have hs1 : atI z.line 1 = some (.ref z.x.o) := rfl
    have hcl : (refs z.cs).length = z.x.D.cs.length := by unfold refs; rw [List.length_map, si.cs]
    have cap := si.cap
    refine ⟨_, (pss_cons (ps_set (i := 2) sc_put.nd rfl (.inl rfl) (pe_callB call_len_seq (by rfl) T.m_len (by decide +kernel) (pa_cons (pe_ix ix_list (pv 1) pe_int (fun _ _ => rfl)) pa_nil)))
 (pss_cons (ps_if (PW.pt (pw_and (pt_cmpR op_eq (pe_call G_take (hr.mono (by first | decide | omega)) (by rfl) T.g_take T.F_take.kp T.b_take .nil pass0 (pa_cons (pv 0) (pa_cons pe_int pa_nil))) pe_int (nomark _)) (pw_and1 (pt_not (pt_val (pe_call G_bad_put (hr.mono (by first | decide | omega)) (by rfl) T.g_bad_put T.F_bad_put.kp T.b_bad_put .nil pass0 (pa_cons (pv 0) (pa_cons (pv 1) pa_nil)))))))) (pss_one (ps_ret pe_bl)) pss_nil)
 (pss_cons (ps_set (i := 3) sc_put.nd rfl (.inl rfl) (pe_call G_clause (hr.mono (by first | decide | omega)) (by rfl) T.g_clause T.F_clause.kp T.b_clause .nil pass0 (pa_cons (pv 0) (pa_cons (pv 1) pa_nil))))
 (pss_cons (ps_set (i := 4) sc_put.nd rfl (.inl rfl) (pe_op op_sub (pe_call G_take (hr.mono (by first | decide | omega)) (by rfl) T.g_take T.F_take.kp T.b_take .nil pass0 (pa_cons (pv 0) (pa_cons pe_int pa_nil))) pe_int))
 (pss_cons (ps_if (PW.pt (pw_or (pt_not (pt_val (pe_call G_alike (hr.mono (by first | decide | omega)) (by rfl) T.g_alike T.F_alike.kp T.b_alike .nil pass0 (pa_cons (pe_meth0 (pe_ix ix_list (pv 1) pe_int (fun _ _ => rfl)) T.cl_Watching T.M_Watching_size G_Watching_size (hr.mono (by first | decide | omega)) T.b_Watching_size .nil pass0) (pa_cons (pv 2) pa_nil))))) (pw_or1 (pt_not (pt_val (pe_call G_alike (hr.mono (by first | decide | omega)) (by rfl) T.g_alike T.F_alike.kp T.b_alike .nil pass0 (pa_cons (pe_meth (pe_ix ix_list (pv 1) pe_int (fun _ _ => rfl)) T.cl_Watching T.M_Watching_put G_Watching_put (hr.mono (by first | decide | omega)) T.b_Watching_put .nil pass0 (pa_cons (pv 3) (pa_cons (pv 4) pa_nil))) (pa_cons (pv 2) pa_nil)))))))) (pss_one (ps_ret pe_bl)) pss_nil)
 (pss_cons (ps_expr (pe_bm PySem.F.plainAttrs_list PySem.F.slot_list_append PySem.F.type_list_append mt_append (pe_ix ix_list (pv 1) pe_int (fun _ _ => rfl)) (pa_cons (pv 3) pa_nil)))
 (pss_cons (ps_expr (pe_bm PySem.F.plainAttrs_list PySem.F.slot_list_append PySem.F.type_list_append mt_append (pe_ix ix_list (pv 1) pe_int (fun _ _ => rfl)) (pa_cons (pv 4) pa_nil)))
 (pss_cons (ps_expr (pe_bm PySem.F.plainAttrs_list PySem.F.slot_list_append PySem.F.type_list_append mt_append (pe_ix ix_list (pv 1) pe_int (fun _ _ => rfl)) (pa_cons pe_bl pa_nil)))
 (pss_cons (ps_asg pe_bl (pg_sub (pv 1) pe_int set_list))
 (pss_one (ps_ret (pe_and (pe_call G_alike (hr.mono (by first | decide | omega)) (by rfl) T.g_alike T.F_alike.kp T.b_alike .nil pass0 (pa_cons (pe_meth0 (pe_ix ix_list (pv 1) pe_int (fun _ _ => rfl)) T.cl_Watching T.M_Watching_size G_Watching_size (hr.mono (by first | decide | omega)) T.b_Watching_size .nil pass0) (pa_cons (pe_op op_add (pv 2) pe_int) pa_nil))) (pe_one (pe_call G_watched (hr.mono (by first | decide | omega)) (by rfl) T.g_watched T.F_watched.kp T.b_watched .nil pass0 (pa_cons (pv 1) (pa_cons (pv 2) pa_nil)))))))))))))))), ?_⟩
    refine Z.w_start (σ' := [some (.ref q), some (.ref z.Sa), none, none, none]) rfl ?_
    repeat' (first | with_reducible refine seqIf (fun σ' H' => σ' = [some (.ref q), some (.ref z.Sa), some (.int (z.x.D.cs.length : Int)), none, none] ∧ PX q H H') (fun Rk kk => ?_) ?_ | walk_at "w1")
    · rename_i r H1 x1 r0 r1
      rw [hcl]
      by_cases e0 : r = 0
      · rw [decide_eq_true e0, if_pos rfl]
        have so1 := so.px hp hq x1
        walk_at "w"
        refine ⟨q, z, m, rfl, x1.pl, hq, so1, si, fun H2 x2 => ?_⟩
        walk_at "w"
        exact kk _ _ ⟨rfl, x1.trans x2⟩
      · rw [decide_eq_false e0, if_neg (by decide), if_neg (by decide)]
        walk_at "w"
        exact kk _ _ ⟨rfl, x1⟩
    rintro σ' H0 ⟨rfl, x0⟩
    have so0 := so.px hp hq x0
    have pl0 := x0.pl
    walk_at "w"
    refine ⟨q, z, m, rfl, pl0, hq, so0, si, fun a c H1 x1 hS co => ?_⟩
    have so1 := so0.px pl0 hq x1
    have pl1 := x1.pl
    obtain ⟨xsq, eq⟩ := pool_lst pl1
    walk_at "w"
    rename_i r H2 x2 r0 r1
    have so2 := so1.px pl1 hq x2
    have hsa2 := so2.sa
    have hS2 := sqT_lst eq x2.sx hS
    have x02 := (x0.trans x1).trans x2
    walk_at "w"
    refine w_methF ?_
    walk_at "w"
    refine ⟨_, _, _, rfl, so2.ok.wa.obj, by rfl, ?_⟩
    refine ⟨z.x, rfl, so2.ok, ?_⟩
    walk_at "w"
    refine use_alike (.inr ⟨_, rfl⟩) ?_
    walk_at "w"
    refine w_methF ?_
    walk_at "w"
    refine ⟨_, _, _, rfl, so2.ok.wa.obj, by rfl, ?_⟩
    walk_at "w"
    refine ⟨z.x, k, a, c, _, rfl, so2.ok, inv, hS2, co.2.2, co.1, co.2.1, putOk_zero hd0, by omega, by omega, so2.tab, fun H3 x' d3 ok3 inv3 e1 e2 e3 e4 e5 e6 e7 e8 => ?_⟩
    walk_at "w"
    refine use_alike (.inr ⟨_, rfl⟩) ?_
    have g3 := Go.prog so2 d3 ok3 e1 e2 e4
    have so3 := g3.so
    have hsa3 := so3.sa
    have hac3 := so3.ac
    have hS3 := sqT_dx d3 so2.ok.mu hS2
    have szc : (refs z.cs).length < sizeLine := by rw [hcl]; exact Nat.lt_of_le_of_lt (show z.x.D.cs.length ≤ 1000 by omega) (by decide)
    walk_at "w"
    refine Z.w_bm ?_
    walk_at "w"
    refine ⟨.inl ⟨rfl, _, .inl (.inl hac3)⟩, ?_⟩
    walk_at "w"
    refine ⟨z.Ac, _, _, rfl, rfl, hac3, szc, ?_⟩
    have g4 := Go.addC so3 (a, c) hS3
    have so4 := g4.so
    have hsa4 := so4.sa
    have has4 := so4.as
    have sos := si.so
    dsimp only at g4 so4 hsa4 has4
    generalize upd H3 z.Ac (.lst (refs z.cs ++ [.ref a])) = H4 at g4 so4 hsa4 has4 ⊢
    walk_at "w"
    refine Z.w_bm ?_
    walk_at "w"
    refine ⟨.inl ⟨rfl, _, .inl (.inl has4)⟩, ?_⟩
    walk_at "w"
    refine ⟨z.As, _, _, rfl, rfl, has4, by rw [List.length_map]; exact Nat.lt_of_le_of_lt (show z.so.length ≤ 1000 by have := sos.1; omega) (by decide), ?_⟩
    have g5 := Go.addS so4 (r - 1000)
    have so5 := g5.so
    have hsa5 := so5.sa
    have haf5 := so5.af
    dsimp only at g5 so5 hsa5 haf5
    generalize upd H4 z.As (.lst (z.so.map V.int ++ [.int (r - 1000)])) = H5 at g5 so5 hsa5 haf5 ⊢
    walk_at "w"
    refine Z.w_bm ?_
    walk_at "w"
    refine ⟨.inl ⟨rfl, _, .inl (.inl haf5)⟩, ?_⟩
    walk_at "w"
    have fln := inv.fln
    refine ⟨z.Af, _, _, rfl, rfl, haf5, by rw [List.length_map, si.fg, fln]; exact Nat.lt_of_le_of_lt (show z.x.D.cs.length ≤ 1000 by omega) (by decide), ?_⟩
    have g6 := Go.setF so5 (z.fg ++ [false])
    have ef : z.fg.map V.bl ++ [V.bl false] = (z.fg ++ [false]).map V.bl := by rw [List.map_append]; rfl
    rw [ef]
    have so6 := g6.so
    have hsa6 := so6.sa
    dsimp only at g6 so6 hsa6
    generalize upd H5 z.Af (.lst ((z.fg ++ [false]).map V.bl)) = H6 at g6 so6 hsa6 ⊢
    walk_at "w"
    have g7 := Go.mark so6 false
    have so7 := g7.so
    dsimp only at g7 so7
    have hsa7 := so7.sa
    have ec : (x'.D.cs.map (·.2))[z.x.D.cs.length]? = some c := by
      rw [e6, List.map_append, List.getElem?_append_right (by rw [List.length_map]; exact Nat.le_refl _), List.length_map, Nat.sub_self]
      rfl
    have hwl : z.x.D.cs.length < x'.D.wp.length := by
      have := inv3.ci.wl
      rw [List.length_map, e6, List.length_append, List.length_singleton] at this
      omega
    have ew : x'.D.wp[z.x.D.cs.length]? = some x'.D.wp[z.x.D.cs.length] := List.getElem?_eq_getElem hwl
    generalize x'.D.wp[z.x.D.cs.length] = ww at ew
    have o := inv3.ci.one z.x.D.cs.length c ww ec ew (by
      try dsimp only
      rw [e7, WA.getD_snoc, List.getD_eq_getElem?_getD, List.getElem?_eq_none (by omega)]
      rfl)
    have ecs : z.cs ++ [(a, c)] = x'.D.cs := by rw [e6, si.cs]
    have ecl : x'.D.cs.length = z.x.D.cs.length + 1 := by rw [e6, List.length_append, List.length_singleton]
    have eL : (SS.line { z with x := x', cs := z.cs ++ [(a, c)], so := z.so ++ [r - 1000], fg := z.fg ++ [false] }).set 7 (.bl false) = SS.line { z with x := x', cs := z.cs ++ [(a, c)], so := z.so ++ [r - 1000], fg := z.fg ++ [false], pr := false } := rfl
    rw [eL]
    generalize upd H6 z.Sa (.lst (SS.line { z with x := x', cs := z.cs ++ [(a, c)], so := z.so ++ [r - 1000], fg := z.fg ++ [false], pr := false })) = H7 at g7 so7 hsa7 ⊢
    have hs1' : atI (SS.line { z with x := x', cs := z.cs ++ [(a, c)], so := z.so ++ [r - 1000], fg := z.fg ++ [false], pr := false }) 1 = some (.ref x'.o) := rfl
    refine w_methF ?_
    walk_at "w"
    refine ⟨_, _, _, rfl, so7.ok.wa.obj, by rfl, ?_⟩
    refine ⟨x', rfl, so7.ok, ?_⟩
    walk_at "w"
    rw [show (x'.D.cs.length : Int) = (z.x.D.cs.length : Int) + 1 by omega]
    refine use_alike (.inr ⟨_, rfl⟩) ?_
    refine ⟨true, rfl, ?_⟩
    rw [if_pos rfl]
    walk_at "w"
    refine ⟨{ z with x := x', cs := z.cs ++ [(a, c)], so := z.so ++ [r - 1000], fg := z.fg ++ [false], pr := false }, z.x.D.cs.length, c, ww, rfl, so7, by show ((z.cs ++ [(a, c)]).map (·.2))[_]? = _; rw [ecs]; exact ec, ew, wd_of o, fun H8 s8 => ?_⟩
    refine h H8 _ ⟨(((((((Gq.refl so hp hq).px x02).go g3).go g4).go g5).go g6).go g7).same s8, ?_, e4, congrArg (fun t : TrO => t.dn) e3⟩ e5 rfl ecl
    refine ⟨⟨k, inv3, fun hh => by cases hh⟩, ecs, ?_, ?_, ?_, ?_, si.hdl, ⟨?_, ?_, by omega⟩, ?_⟩
    · refine ⟨?_, ?_, ?_⟩
      · show (z.so ++ [r - 1000]).length ≤ m + 1
        rw [List.length_append, List.length_singleton]
        have := sos.1
        omega
      · show z.so ++ [r - 1000] = x'.D.so
        rw [e8, sos.2.1]
      · show x'.D.so.length = x'.D.cs.length
        rw [e8, e6, List.length_append, List.length_append, sos.2.2]
        rfl
    · show z.fg ++ [false] = x'.D.fg
      rw [e7, si.fg]
    · show z.rs = x'.rs
      rw [e5, si.rs]
    · show RInvH (x'.D.cs.map (·.2)) x'.D.fg x'.rs z.hd
      rw [e6, e7, e5, List.map_append]
      exact si.rr.put c
    · show x'.D.cs.length ≤ m + 1
      rw [e6, List.length_append, List.length_singleton]
      omega
    · show x'.D.so.length ≤ m + 1
      rw [e8, List.length_append, List.length_singleton]
      omega
    · show z.lk = [] ∨ _ = x'.ns
      rw [e4]
      exact si.lk
end
end L

namespace L
open PySem PySem.Spec PyProof.Rows L2 Z M MR MT X2
open _root_.SX (S S_len S_cat S_inj)
section
variable {P : Program} {w : World} {K : PySem.W.Frag} {mg : Str → Option Value} {base : Heap}
theorem fm_not (ms : List Int) : ∀ c : List Int, c.filterMap (fun l => if l ∈ ms then none else some (V.int l)) = (c.filter fun l => !decide (l ∈ ms)).map V.int
  | [] => rfl
  | l :: c => by
    by_cases e : l ∈ ms
    · rw [List.filterMap_cons_none (by rw [if_pos e]), fm_not ms c, List.filter_cons, if_neg (by simp [e])]
    · rw [List.filterMap_cons_some (b := V.int l) (by rw [if_neg e]), fm_not ms c, List.filter_cons, if_pos (by simp [e])]
      rfl
def spLOpen (K : PySem.W.Frag) (CT CW : Addr) (T : Tb) : Sp := fun vs H Q _ => ∃ (q : Addr) (z : SS) (m : Nat), vs = [.ref q, .ref z.Sa] ∧ PoolAt H q ∧ q ∉ z.all ∧ SOk K CT CW T H z ∧ SInv z m ∧
  ∀ (l : Int) H', PX q H H' → (l = 0 ∨ (l ≠ 0 ∧ (l.natAbs : Int) ∈ z.x.ns ∧ l ∉ lits z.rs ∧ -l ∉ lits z.rs)) → Q (.int l) H'
theorem ok_Lopen (T : Txt K mg) {Tt : Tb} : FnOk P w K mg base CX0 2 T.f_open T.fd_open ["_law_pool_here", "_law_seat_here"] (spLOpen K T.C_Trail T.C_Watching Tt) := by
  have G_take := ok_take (P := P) (w := w) (base := base) T
  refine T.F_open.ok sc_open (fun vs H Q E h => ?_) (fun cdv A outer s H vs Q E hr h => ?_)
  · obtain ⟨q, z, m, rfl, _⟩ := h
    rfl
  · obtain ⟨q, z, m, rfl, hp, hq, so, si, h⟩ := h
    obtain ⟨k, inv, _⟩ := si.inv
    have hsa := so.sa
    have har := so.ar
    have han := so.an
    have hul := so.rv.1
    have hl := si.len
    have nl := inv.nsl.1
    have hs6 : atI z.line 6 = some (.ref z.Ar) := rfl
    have hs2 : atI z.line 2 = some (.ref z.An) := rfl
    have hs8 : atI z.line 8 = some (.ref z.Al) := rfl
    have hal := so.al
    refine ⟨_, (pss_cons (ps_set (i := 2) sc_open.nd rfl (.inr rfl) (pe_lc (own := [("_law_row", 3)]) (g := gName 3) (tt := tYes) (by rfl) sc_open.nd (pi_list (pe_ix ix_list (pv 1) pe_int (fun _ _ => rfl))) (blkOk_by (own := [("_law_row", 3)]) (N := N_open) (sc := defScope s_open) (by decide +kernel)) (fun _ _ _ _ _ => pg_name (i := 3) sc_open.nd rfl (Or.inl rfl)) (fun _ _ _ _ _ => pts_nil) (fun _ _ _ _ _ => (pe_callB call_abs (by rfl) T.m_abs (by decide +kernel) (pa_cons (pe_ix (show IxR _ (rIxT K) from ix_tup) (pv 3) pe_int (fun _ _ => rfl)) pa_nil)))))
 (pss_cons (ps_setLc (i := 4) (own := [("_law_node", 5)]) (g := gName 5) (by rfl) sc_open.nd rfl rfl (sw_true rfl rfl rfl (by decide +kernel)) (pi_list (pe_ix ix_list (pv 1) pe_int (fun _ _ => rfl))) (blkOk_by (own := [("_law_node", 5)]) (N := N_open) (sc := defScope s_open) (by decide +kernel)) (fun _ _ _ _ _ => pg_name (i := 5) sc_open.nd rfl (Or.inl rfl)) (fun _ _ _ _ _ => pts_one (pt_cmpR (show OpR _ _ (rIn K true) from op_notIn_seq) (pv 5) (pv 2) rfl)) (fun _ _ _ _ _ => (pv 5)))
 (pss_cons (ps_if (pt_cmpR op_eq (pe_callB call_len_seq (by rfl) T.m_len (by decide +kernel) (pa_cons (pv 4) pa_nil)) pe_int (nomark _)) (pss_one (ps_ret pe_int)) pss_nil)
 (pss_cons (ps_if (PW.pt (pw_and (pt_cmpR op_gt (pe_callB call_len_seq (by rfl) T.m_len (by decide +kernel) (pa_cons (pe_ix ix_list (pv 1) pe_int (fun _ _ => rfl)) pa_nil)) pe_int (nomark _)) (pw_and (pt_cmpR op_in_seq (pe_callB call_abs (by rfl) T.m_abs (by decide +kernel) (pa_cons (pe_ix ix_list (pe_ix ix_list (pv 1) pe_int (fun _ _ => rfl)) pe_int (fun _ _ => rfl)) pa_nil)) (pv 4) rfl) (pw_and1 (pt_cmpR op_eq (pe_call G_take (hr.mono (by first | decide | omega)) (by rfl) T.g_take T.F_take.kp T.b_take .nil pass0 (pa_cons (pv 0) (pa_cons pe_int pa_nil))) pe_int (nomark _)))))) (pss_one (ps_ret (pe_ix ix_list (pe_ix ix_list (pv 1) pe_int (fun _ _ => rfl)) pe_int (fun _ _ => rfl)))) pss_nil)
 (pss_cons (ps_set (i := 5) sc_open.nd rfl (.inl rfl) (pe_ix ix_list (pv 4) (pe_call G_take (hr.mono (by first | decide | omega)) (by rfl) T.g_take T.F_take.kp T.b_take .nil pass0 (pa_cons (pv 0) (pa_cons (pe_callB call_len_seq (by rfl) T.m_len (by decide +kernel) (pa_cons (pv 4) pa_nil)) pa_nil))) (fun _ _ => rfl)))
 (pss_one (ps_ret (pe_op op_sub (pv 5) (pe_op op_mul (pe_op op_mul pe_int (pv 5)) (pe_call G_take (hr.mono (by first | decide | omega)) (by rfl) T.g_take T.F_take.kp T.b_take .nil pass0 (pa_cons (pv 0) (pa_cons pe_int pa_nil)))))))))))), ?_⟩
    refine Z.w_start (σ' := [some (.ref q), some (.ref z.Sa), none, none, none, none]) rfl ?_
    walk_at "w"
    intro D hD
    refine lcl (K := K) z.rs (fun r => some (V.int (r.1.natAbs : Int))) hul (by omega) hD (.inl (.inl har)) ?_ ?_
    · rintro i x y H' acc N hx hy sm eD sz k1 k2
      obtain ⟨p, e1, e2⟩ := so.rv.2 i _ hy
      rw [hx] at e1
      obtain rfl := Option.some.inj e1
      have ht := sm _ _ e2
      refine Z.w_gname rfl ⟨rfl, ?_⟩
      walk_at "w"
      have ea : (if y.1 < 0 then -y.1 else y.1) = (y.1.natAbs : Int) := by split <;> omega
      rw [ea]
      exact ⟨acc, eD, sz, k1 _ rfl⟩
    · intro H1 s1 eD
      have el : z.rs.filterMap (fun r => some (V.int (r.1.natAbs : Int))) = ((lits z.rs).map fun l => (l.natAbs : Int)).map V.int := by
        rw [List.filterMap_eq_map']
        unfold lits
        rw [List.map_map, List.map_map]
        rfl
      rw [el] at eD
      have hsa1 := s1 _ _ hsa
      have han1 := s1 _ _ han
      walk_at "w"
      intro D2 hD2
      refine lcl (K := K) z.x.ns (fun n => if n ∈ (lits z.rs).map (fun l => (l.natAbs : Int)) then none else some (V.int n)) (List.length_map _) (by omega) hD2 (.inl (.inl han1)) ?_ ?_
      · rintro i x n H' acc N hx hn sm eA sz k1 k2
        rw [List.getElem?_map, hn] at hx
        obtain rfl := Option.some.inj hx
        have eD2 := sm _ _ eD
        refine Z.w_gname rfl ⟨rfl, ?_⟩
        walk_at "w"
        refine w_inI (.inl (.inl (.inl eD2))) ?_
        rw [if_pos rfl]
        by_cases e : n ∈ (lits z.rs).map (fun l => (l.natAbs : Int))
        · rw [if_pos e] at k2
          rw [decide_eq_true e]
          refine ⟨false, rfl, ?_⟩
          rw [if_neg (by decide)]
          exact k2 rfl
        · rw [if_neg e] at k1
          rw [decide_eq_false e]
          refine ⟨true, rfl, ?_⟩
          rw [if_pos rfl]
          walk_at "w"
          exact ⟨acc, eA, sz, k1 _ rfl⟩
      · intro H2 s2 eA
        rw [fm_not] at eA
        generalize hfr : z.x.ns.filter (fun n => !decide (n ∈ (lits z.rs).map (fun l => (l.natAbs : Int)))) = fr at eA
        have hfl : fr.length ≤ z.x.ns.length := by rw [← hfr]; exact List.length_filter_le _ _
        have s12 := s1.trans s2
        have hp2 := hp.same s12
        walk_at "w"
        by_cases h0 : fr = []
        · subst h0
          rw [if_pos (by simp)]
          walk_at "w"
          exact h 0 _ ((PX.refl hp).same s12) (.inl rfl)
        · have hpos := List.length_pos_iff.mpr h0
          rw [if_neg (by simp; exact h0)]
          have lfr : (fr.map V.int).length = fr.length := List.length_map _
          have hsa2 := s2 _ _ hsa1
          have hal2 := s12 _ _ hal
          have nq : D2 ≠ q := fun e => by
            obtain ⟨o, e1, _⟩ := hp.same s1
            rw [← e, hD2] at e1
            cases e1
          have hfin : ∀ l : Int, (l.natAbs : Int) ∈ fr → l ≠ 0 ∧ (l.natAbs : Int) ∈ z.x.ns ∧ l ∉ lits z.rs ∧ -l ∉ lits z.rs := fun l hl => by
            rw [← hfr, List.mem_filter] at hl
            have h2 : (l.natAbs : Int) ∉ (lits z.rs).map (fun l => (l.natAbs : Int)) := by simpa using hl.2
            have hnb := inv.nsb _ hl.1
            exact ⟨fun e => by rw [e] at hnb; simp at hnb, hl.1, fun m => h2 (List.mem_map.mpr ⟨l, m, rfl⟩), fun m => h2 (List.mem_map.mpr ⟨-l, m, by rw [Int.natAbs_neg]⟩)⟩
          refine' (fun (tail : ∀ H3, PX q H H3 → H3 D2 = some (.lst (fr.map V.int)) → (_ : Hp → Prop) H3) => _) _
          rotate_left
          · walk_at "w"
            have lll : (z.lk.map V.int).length = z.lk.length := List.length_map _
            by_cases e0 : 0 < z.lk.length
            · rw [decide_eq_true (show (0 : Int) < ((z.lk.map V.int).length : Int) by omega), if_pos rfl]
              have ej0 : z.lk[0]? = some z.lk[0] := List.getElem?_eq_getElem e0
              generalize z.lk[0] = l0 at ej0
              have a0 : atI (z.lk.map V.int) 0 = some (.int l0) := show atI (z.lk.map V.int) ((0 : Nat) : Int) = _ from atI_nat (by rw [List.getElem?_map, ej0]; rfl)
              have ea : (if l0 < 0 then -l0 else l0) = (l0.natAbs : Int) := by split <;> omega
              walk_at "w"
              rw [ea]
              refine w_inI (.inl (.inl (.inl eA))) ?_
              rw [if_neg (by decide)]
              by_cases e1 : (l0.natAbs : Int) ∈ fr
              · rw [decide_eq_true e1]
                refine ⟨true, rfl, ?_⟩
                rw [if_pos rfl]
                walk_at "w"
                rename_i r3 H3 x3 r30 r31
                by_cases e2 : r3 = 1
                · rw [decide_eq_true e2, if_pos rfl]
                  have so3 := (so.same s12).px hp2 hq x3
                  have hsa3 := so3.sa
                  have hal3 := so3.al
                  walk_at "w"
                  exact h _ _ (((PX.refl hp).same s12).trans x3) (.inr (hfin l0 e1))
                · rw [decide_eq_false e2, if_neg (by decide)]
                  exact tail _ (((PX.refl hp).same s12).trans x3) (x3.sx _ _ nq eA)
              · rw [decide_eq_false e1]
                refine ⟨false, rfl, ?_⟩
                rw [if_neg (by decide), if_neg (by decide)]
                exact tail _ ((PX.refl hp).same s12) eA
            · rw [decide_eq_false (show ¬ (0 : Int) < ((z.lk.map V.int).length : Int) by omega), if_neg (by decide), if_neg (by decide)]
              exact tail _ ((PX.refl hp).same s12) eA
          intro H3 px3 eA3
          have pl3 := px3.pl
          walk_at "w"
          rename_i r H4 x4 r0 r1
          obtain ⟨j, rfl⟩ := Int.eq_ofNat_of_zero_le r0
          have eA4 := x4.sx _ _ nq eA3
          have hj : j < fr.length := by omega
          have ej : fr[j]? = some fr[j] := List.getElem?_eq_getElem hj
          generalize fr[j] = n at ej
          have a1 : atI (fr.map V.int) (j : Int) = some (.int n) := atI_nat (by rw [List.getElem?_map, ej]; rfl)
          have hnm := List.mem_of_getElem? ej
          have hnb : 0 < n := by
            rw [← hfr, List.mem_filter] at hnm
            exact (inv.nsb _ hnm.1).1
          have pl4 := x4.pl
          walk_at "w"
          rename_i r4 H5 x5 r40 r41
          have ya : ((n - 2 * n * r4).natAbs : Int) = n := by
            rcases (show r4 = 0 ∨ r4 = 1 by omega) with rfl | rfl <;> omega
          generalize n - 2 * n * r4 = l at ya
          exact h l _ ((px3.trans x4).trans x5) (.inr (hfin l (by rw [ya]; exact hnm)))
theorem fm_if (p : Nat → Bool) : ∀ c : List Nat, c.filterMap (fun k => if p k = true then some (V.int (k : Int)) else none) = nV (c.filter p)
  | [] => rfl
  | l :: c => by
    by_cases e : p l = true
    · rw [List.filterMap_cons_some (b := V.int (l : Int)) (by rw [if_pos e]), fm_if p c, List.filter_cons, if_pos e]
      rfl
    · rw [List.filterMap_cons_none (by rw [if_neg e]), fm_if p c, List.filter_cons, if_neg e]
def spLForget (K : PySem.W.Frag) (CT CW : Addr) (T : Tb) : Sp := fun vs H Q _ => ∃ (q : Addr) (z : SS) (m : Nat), vs = [.ref q, .ref z.Sa] ∧ PoolAt H q ∧ q ∉ z.all ∧ SOk K CT CW T H z ∧ SInv z m ∧
  ∀ H' z', StepQ K CT CW T q H H' z z' m → Q (.bl true) H'
theorem ok_Lforget (T : Txt K mg) {Tt : Tb} : FnOk P w K mg base CX0 2 T.f_forget T.fd_forget ["_law_pool_here", "_law_seat_here"] (spLForget K T.C_Trail T.C_Watching Tt) := by
  have G_take := ok_take (P := P) (w := w) (base := base) T
  have G_Watching_forget := ok_forget (P := P) (w := w) (base := base) T (Tt := Tt)
  refine T.F_forget.ok sc_forget (fun vs H Q E h => ?_) (fun cdv A outer s H vs Q E hr h => ?_)
  · obtain ⟨q, z, m, rfl, _⟩ := h
    rfl
  · obtain ⟨q, z, m, rfl, hp, hq, so, si, h⟩ := h
    obtain ⟨k, inv, hk⟩ := si.inv
    have hsa := so.sa
    have har := so.ar
    have hac := so.ac
    have haf := so.af
    have hul := so.rv.1
    have hl := si.len
    have cap := si.cap
    have fln := inv.fln
    have hcl : (refs z.cs).length = z.x.D.cs.length := by unfold refs; rw [List.length_map, si.cs]
    have hs6 : atI z.line 6 = some (.ref z.Ar) := rfl
    have hs3 : atI z.line 3 = some (.ref z.Ac) := rfl
    have hs5 : atI z.line 5 = some (.ref z.Af) := rfl
    have hs1 : atI z.line 1 = some (.ref z.x.o) := rfl
    refine ⟨_, (pss_cons (ps_set (i := 2) sc_forget.nd rfl (.inr rfl) (pe_lc (own := [("_law_row", 3)]) (g := gName 3) (tt := tYes) (by rfl) sc_forget.nd (pi_list (pe_ix ix_list (pv 1) pe_int (fun _ _ => rfl))) (blkOk_by (own := [("_law_row", 3)]) (N := N_forget) (sc := defScope s_forget) (by decide +kernel)) (fun _ _ _ _ _ => pg_name (i := 3) sc_forget.nd rfl (Or.inl rfl)) (fun _ _ _ _ _ => pts_nil) (fun _ _ _ _ _ => (pe_ix (show IxR _ (rIxT K) from ix_tup) (pv 3) pe_int (fun _ _ => rfl)))))
 (pss_cons (ps_setLc (i := 4) (own := [("_law_k", 5)]) (g := gName 5) (by rfl) sc_forget.nd rfl rfl (sw_true rfl rfl rfl (by decide +kernel)) (pi_range1 (by rfl) T.m_range (pa_cons (pe_callB call_len_seq (by rfl) T.m_len (by decide +kernel) (pa_cons (pe_ix ix_list (pv 1) pe_int (fun _ _ => rfl)) pa_nil)) pa_nil)) (blkOk_by (own := [("_law_k", 5)]) (N := N_forget) (sc := defScope s_forget) (by decide +kernel)) (fun _ _ _ _ _ => pg_name (i := 5) sc_forget.nd rfl (Or.inl rfl)) (fun _ _ _ _ _ => pts_one (PW.pt (pw_and (pt_not (pt_val (pe_ix (show IxR _ (rIxL K) from ix_list) (pe_ix (show IxR _ (rIxL K) from ix_list) (pv 1) pe_int (fun _ _ => rfl)) (pv 5) (fun _ _ => rfl)))) (pw_and1 (pt_cmpR (show OpR _ _ (rIn K true) from op_notIn_seq) (pv 5) (pv 2) rfl))))) (fun _ _ _ _ _ => (pv 5)))
 (pss_cons (ps_if (pt_cmpR op_eq (pe_callB call_len_seq (by rfl) T.m_len (by decide +kernel) (pa_cons (pv 4) pa_nil)) pe_int (nomark _)) (pss_one (ps_ret pe_bl)) pss_nil)
 (pss_cons (ps_set (i := 6) sc_forget.nd rfl (.inl rfl) (pe_ix ix_list (pv 4) (pe_call G_take (hr.mono (by first | decide | omega)) (by rfl) T.g_take T.F_take.kp T.b_take .nil pass0 (pa_cons (pv 0) (pa_cons (pe_callB call_len_seq (by rfl) T.m_len (by decide +kernel) (pa_cons (pv 4) pa_nil)) pa_nil))) (fun _ _ => rfl)))
 (pss_cons (ps_asg pe_bl (pg_sub (pe_ix ix_list (pv 1) pe_int (fun _ _ => rfl)) (pv 6) set_list))
 (pss_one (ps_ret (pe_cmpR op_isN (pe_meth (pe_ix ix_list (pv 1) pe_int (fun _ _ => rfl)) T.cl_Watching T.M_Watching_forget G_Watching_forget (hr.mono (by first | decide | omega)) T.b_Watching_forget .nil pass0 (pa_cons (pv 6) pa_nil)) pe_non (nomark _))))))))), ?_⟩
    refine Z.w_start (σ' := [some (.ref q), some (.ref z.Sa), none, none, none, none, none]) rfl ?_
    walk_at "w"
    intro D hD
    refine lcl (K := K) z.rs (fun r => some (rV r.2)) hul (by omega) hD (.inl (.inl har)) ?_ ?_
    · rintro i x y H' acc N hx hy sm eD sz k1 k2
      obtain ⟨p, e1, e2⟩ := so.rv.2 i _ hy
      rw [hx] at e1
      obtain rfl := Option.some.inj e1
      have ht := sm _ _ e2
      refine Z.w_gname rfl ⟨rfl, ?_⟩
      walk_at "w"
      exact ⟨acc, eD, sz, k1 _ rfl⟩
    · intro H1 s1 eD
      rw [List.filterMap_eq_map'] at eD
      have hsa1 := s1 _ _ hsa
      have hac1 := s1 _ _ hac
      have haf1 := s1 _ _ haf
      walk_at "w"
      rw [hcl]
      refine ⟨by omega, by omega, ?_⟩
      intro D2 hD2
      have en : ((z.x.D.cs.length : Int)).toNat = z.x.D.cs.length := by omega
      have hrng : (List.range z.x.D.cs.length).length = z.x.D.cs.length := List.length_range
      first | rw [en] | skip
      refine lcr (List.range z.x.D.cs.length) (fun k : Nat => if (!z.fg.getD k false && !inV (.int (k : Int)) (z.rs.map fun r => rV r.2)) = true then some (V.int (k : Int)) else none) hrng.symm (by omega) hD2 ?_ ?_
      · rintro i y H' acc N hi hy sm eA sz k1 k2
        rw [List.getElem?_range hi] at hy
        obtain rfl := Option.some.inj hy
        have hsa2 := sm _ _ hsa1
        have haf2 := sm _ _ haf1
        have eD2 := sm _ _ eD
        have hif : i < z.fg.length := by rw [si.fg, fln]; exact hi
        have ef : z.fg[i]? = some z.fg[i] := List.getElem?_eq_getElem hif
        have eg : z.fg.getD i false = z.fg[i] := by rw [List.getD_eq_getElem?_getD, ef]; rfl
        generalize z.fg[i] = fb at ef eg
        have a2 : atI (z.fg.map V.bl) (0 + (i : Int)) = some (.bl fb) := by rw [Int.zero_add]; exact atI_nat (by rw [List.getElem?_map, ef]; rfl)
        rw [eg] at k1 k2
        refine Z.w_gname rfl ⟨rfl, ?_⟩
        walk_at "w"
        cases fb with
        | true =>
          walk_at "w"
          exact k2 rfl
        | false =>
          walk_at "w"
          refine Z.w_opin (.inl (.inl (.inl eD2))) rfl ?_ ?_
          · rw [List.all_map]
            refine List.all_eq_true.mpr fun r _ => ?_
            show flatV (rV r.2) = true
            cases r.2 <;> rfl
          rw [if_pos rfl, Int.zero_add]
          cases e : inV (.int (i : Int)) (z.rs.map fun r => rV r.2) with
          | true =>
            rw [e] at k2
            refine ⟨false, rfl, ?_⟩
            rw [if_neg (by decide)]
            exact k2 rfl
          | false =>
            rw [e] at k1
            refine ⟨true, rfl, ?_⟩
            rw [if_pos rfl]
            walk_at "w"
            refine ⟨acc, eA, sz, ?_⟩
            exact k1 _ rfl
      · intro H2 s2 eA
        rw [fm_if] at eA
        generalize hfr : (List.range z.x.D.cs.length).filter (fun k : Nat => (!z.fg.getD k false && !inV (.int (k : Int)) (z.rs.map fun r => rV r.2))) = fr at eA
        have hfl : fr.length ≤ z.x.D.cs.length := by rw [← hfr]; exact Nat.le_trans (List.length_filter_le _ _) (Nat.le_of_eq hrng)
        have s12 := s1.trans s2
        have hp2 := hp.same s12
        walk_at "w"
        by_cases h0 : fr = []
        · subst h0
          rw [if_pos (by simp [nV])]
          walk_at "w"
          exact h _ z ⟨(Gq.refl so hp hq).same s12, si, rfl, rfl⟩
        · have hpos := List.length_pos_iff.mpr h0
          rw [if_neg (by rw [nV_len]; simp; exact h0)]
          have lfr : (nV fr).length = fr.length := nV_len _
          walk_at "w"
          rename_i r H3 x3 r0 r1
          obtain ⟨j, rfl⟩ := Int.eq_ofNat_of_zero_le r0
          have nq : D2 ≠ q := fun e => by
            obtain ⟨o, e1, _⟩ := hp.same s1
            rw [← e, hD2] at e1
            cases e1
          have eA3 := x3.sx _ _ nq eA
          have hj : j < fr.length := by omega
          have ej : fr[j]? = some fr[j] := List.getElem?_eq_getElem hj
          generalize fr[j] = n at ej
          have a1 : atI (nV fr) (j : Int) = some (.int (n : Int)) := atI_nat (by unfold nV; rw [List.getElem?_map, ej]; rfl)
          have hn : n < z.x.D.cs.length ∧ z.fg.getD n false = false ∧ inV (.int (n : Int)) (z.rs.map fun r => rV r.2) = false := by
            have := List.mem_of_getElem? ej
            rw [← hfr, List.mem_filter, List.mem_range] at this
            simpa using this
          have g3 := ((Gq.refl so hp hq).same s12).px x3
          have so3 := g3.so
          have hsa3 := so3.sa
          have haf3 := so3.af
          walk_at "w"
          have hnf : n < z.x.D.fg.length := by rw [fln]; exact hn.1
          have eset : (z.fg.map V.bl).set n (.bl true) = (z.fg.set n true).map V.bl := List.map_set.symm
          refine Z.w_setLh haf3 (j := n) ?_ eset ?_
          · have : n < (z.fg.map V.bl).length := by rw [List.length_map, si.fg]; exact hnf
            exact Evl.ixN_nat (j := n) this
          have g4 := Go.setF so3 (z.fg.set n true)
          have so4 := g4.so
          have hsa4 := so4.sa
          dsimp only at g4 so4 hsa4
          generalize upd H3 z.Af (.lst ((z.fg.set n true).map V.bl)) = H4 at g4 so4 hsa4 ⊢
          have hs1' : atI (SS.line { z with fg := z.fg.set n true }) 1 = some (.ref z.x.o) := rfl
          walk_at "w"
          refine w_methF ?_
          walk_at "w"
          refine ⟨_, _, _, rfl, so4.ok.wa.obj, by rfl, ?_⟩
          walk_at "w"
          have egn : z.x.D.fg.getD n false = false := by rw [← si.fg]; exact hn.2.1
          refine ⟨z.x, n, rfl, so4.ok, hnf, by rw [fln]; omega, egn, fun H5 d5 ok5 => ?_⟩
          have g5 := Go.prog (x' := z.x.fgt n) so4 d5 ok5 rfl rfl rfl
          walk_at "w"
          refine h _ { z with x := z.x.fgt n, fg := z.fg.set n true } ⟨(g3.go g4).go g5, ?_, rfl, rfl⟩
          have hrs : ∀ r ∈ z.x.rs, r.2 ≠ some (n : Int) := fun r hr e => by
            have q := hn.2.2
            unfold inV at q
            rw [List.any_eq_false] at q
            have := q (rV r.2) (List.mem_map.mpr ⟨r, by rw [si.rs]; exact hr, rfl⟩)
            rw [e] at this
            exact this (by show eqV (.int (n : Int)) (.int (n : Int)) = true; first | simp [eqV] | rfl)
          refine ⟨⟨k, inv.fgt hnf, hk⟩, si.cs, si.so, ?_, si.rs, si.rr.forget hnf hrs, si.hdl, si.cap, si.lk⟩
          show z.fg.set n true = z.x.D.fg.set n true
          rw [si.fg]
end
end L

namespace L
open PySem PySem.Spec PyProof.Rows L2 Z M MR MT X2
open _root_.SX (S S_len S_cat S_inj)
section
variable {K : PySem.W.Frag} {mg : Str → Option Value}
theorem StepQ.trans {CT CW : Addr} {T : Tb} {q : Addr} {H H1 H2 : Hp} {z z1 z2 : SS} {m n : Nat} (a : StepQ K CT CW T q H H1 z z1 m) (b : StepQ K CT CW T q H1 H2 z1 z2 n) : StepQ K CT CW T q H H2 z z2 n := ⟨a.gq.trans b.gq, b.si, b.ns.trans a.ns, b.dn.trans a.dn⟩
theorem StepQ.up {CT CW : Addr} {T : Tb} {q : Addr} {H H1 : Hp} {z z1 : SS} {m n : Nat} (a : StepQ K CT CW T q H H1 z z1 m) (hm : m ≤ n) (hn : n ≤ 900) : StepQ K CT CW T q H H1 z z1 n := ⟨a.gq, a.si.up hm hn, a.ns, a.dn⟩
theorem StepQ.same {CT CW : Addr} {T : Tb} {q : Addr} {H H1 H2 : Hp} {z z1 : SS} {m : Nat} (a : StepQ K CT CW T q H H1 z z1 m) (s : Same H1 H2) : StepQ K CT CW T q H H2 z z1 m := ⟨a.gq.same s, a.si, a.ns, a.dn⟩
theorem StepQ.px {CT CW : Addr} {T : Tb} {q : Addr} {H H1 H2 : Hp} {z z1 : SS} {m : Nat} (a : StepQ K CT CW T q H H1 z z1 m) (s : PX q H1 H2) : StepQ K CT CW T q H H2 z z1 m := ⟨a.gq.px s, a.si, a.ns, a.dn⟩
theorem StepQ.step {CT CW : Addr} {T : Tb} {q : Addr} {H H1 H2 : Hp} {z z1 z2 : SS} {m n : Nat} (a : StepQ K CT CW T q H H1 z z1 m) (b : Step K CT CW T H1 H2 z1 z2 n) : StepQ K CT CW T q H H2 z z2 n := ⟨a.gq.go b.go, b.si, b.ns.trans a.ns, b.dn.trans a.dn⟩
theorem StepQ.refl {CT CW : Addr} {T : Tb} {q : Addr} {H : Hp} {z : SS} {m : Nat} (so : SOk K CT CW T H z) (si : SInv z m) (hp : PoolAt H q) (hq : q ∉ z.all) : StepQ K CT CW T q H H z z m := ⟨Gq.refl so hp hq, si, rfl, rfl⟩
theorem StepQ.sa {CT CW : Addr} {T : Tb} {q : Addr} {H H1 : Hp} {z z1 : SS} {m : Nat} (a : StepQ K CT CW T q H H1 z z1 m) : z1.Sa = z.Sa := a.gq.sa
end
section
variable {P : Program} {w : World} {K : PySem.W.Frag} {mg : Str → Option Value} {base : Heap}
def spLot (K : PySem.W.Frag) (CT CW : Addr) (T : Tb) : Sp := fun vs H Q _ => ∃ (q : Addr) (z : SS) (m N : Nat), vs = [.ref q, .ref z.Sa, .int (N : Int)] ∧ PoolAt H q ∧ q ∉ z.all ∧ SOk K CT CW T H z ∧ SInv z m ∧ m + N ≤ 900 ∧
  ∀ H' z', StepQ K CT CW T q H H' z z' (m + N) → Q (.bl true) H'
theorem ok_Llot (T : Txt K mg) (TB : LamX.TabB base mg T.c_bw T.P_bw) : FnOk P w K mg base CX0 12 T.f_lot T.fd_lot ["_law_pool_here", "_law_seat_here", "_law_many"] (spLot K T.C_Trail T.C_Watching (T0 T)) := by
  have G_take := ok_take (P := P) (w := w) (base := base) T
  have G_back := ok_Lback (P := P) (w := w) (base := base) T (Tt := T0 T)
  have G_put := ok_Lput (P := P) (w := w) (base := base) T TB
  have G_forget := ok_Lforget (P := P) (w := w) (base := base) T (Tt := T0 T)
  refine T.F_lot.ok sc_lot (fun vs H Q E h => ?_) (fun cdv A outer s H vs Q E hr h => ?_)
  · obtain ⟨q, z, m, N, rfl, _⟩ := h
    rfl
  · obtain ⟨q, z, m, N, rfl, hp, hq, so, si, hm, h⟩ := h
    refine ⟨_, (pss_cons (ps_if (pt_not (pt_val (pe_call G_back (hr.mono (by first | decide | omega)) (by rfl) T.g_back T.F_back.kp T.b_back .nil pass0 (pa_cons (pv 1) (pa_cons pe_int pa_nil))))) (pss_one (ps_ret pe_bl)) pss_nil)
 (pss_cons (ps_for PassesOwn.never rfl (pi_range1 (by rfl) T.m_range (pa_cons (pv 2) pa_nil)) (pg_name (i := 3) sc_lot.nd rfl (.inl rfl)) (pss_one (ps_if (pt_not (pt_val (pe_call G_put (hr.mono (by first | decide | omega)) (by rfl) T.g_put T.F_put.kp T.b_put .nil pass0 (pa_cons (pv 0) (pa_cons (pv 1) pa_nil))))) (pss_one (ps_ret pe_bl)) pss_nil)))
 (pss_one (ps_ret (pe_or (pe_cmpR op_gt (pe_call G_take (hr.mono (by first | decide | omega)) (by rfl) T.g_take T.F_take.kp T.b_take .nil pass0 (pa_cons (pv 0) (pa_cons pe_int pa_nil))) pe_int (nomark _)) (pe_one (pe_call G_forget (hr.mono (by first | decide | omega)) (by rfl) T.g_forget T.F_forget.kp T.b_forget .nil pass0 (pa_cons (pv 0) (pa_cons (pv 1) pa_nil))))))))), ?_⟩
    refine Z.w_start (σ' := [some (.ref q), some (.ref z.Sa), some (.int (N:Int)), none]) rfl ?_
    walk_at "w"
    refine ⟨z, m, 0, rfl, so, si, fun H1 z1 st1 er1 ep1 ec1 => ?_⟩
    have sq1 := (StepQ.refl so si hp hq).step st1
    have hd1 : dep z1.x.rs = 0 := by rw [er1, dep_take_min]; omega
    walk_at "w"
    refine ⟨by omega, by omega, ?_⟩
    refine for_range (fun i σ H' => ∃ (x3 : Option V) (z2 : SS), σ = [some (.ref q), some (.ref z.Sa), some (.int (N : Int)), x3] ∧ StepQ K T.C_Trail T.C_Watching (T0 T) q H H' z z2 (m + i) ∧ dep z2.x.rs = 0) ?_ ?_ ?_
    · exact ⟨_, z1, rfl, sq1, hd1⟩
    · rintro i σ H2 hi ⟨x3, z2, rfl, sq2, hd2⟩
      have hi : i < N := by omega
      walk_at "w"
      refine ⟨q, z2, m + i, by rw [sq2.sa], sq2.gq.pl, sq2.gq.qn, sq2.gq.so, sq2.si, by omega, hd2, fun H3 z3 st3 er3 _ _ => ?_⟩
      walk_at "w"
      exact ⟨_, z3, rfl, sq2.trans st3, by rw [er3]; exact hd2⟩
    · rintro σ H2 ⟨x3, z2, rfl, sq2, hd2⟩
      have sq2 := sq2.up (n := m + N) (by omega) hm
      have pl2 := sq2.gq.pl
      walk_at "w"
      rename_i r H3 x3 r0 r1
      have sq3 := sq2.px x3
      by_cases e : (0 : Int) < r
      · rw [decide_eq_true e]
        exact h _ _ sq3
      · rw [decide_eq_false e]
        rw [if_neg (by decide)]
        walk_at "w"
        exact ⟨q, z2, _, by rw [sq3.sa], sq3.gq.pl, sq3.gq.qn, sq3.gq.so, sq3.si, fun H4 z4 st4 => h _ _ (sq3.trans st4)⟩
end
end L

namespace L
open PySem PySem.Spec PyProof.Rows L2 Z M MR MT X2
open _root_.SX (S S_len S_cat S_inj)
section
variable {P : Program} {w : World} {K : PySem.W.Frag} {mg : Str → Option Value} {base : Heap}
def spDeed (K : PySem.W.Frag) (CT CW : Addr) (T : Tb) : Sp := fun vs H Q _ => ∃ (q : Addr) (z : SS) (m : Nat), vs = [.ref q, .ref z.Sa] ∧ PoolAt H q ∧ q ∉ z.all ∧ SOk K CT CW T H z ∧ SInv z m ∧ m + 3 ≤ 900 ∧
  ∀ H' z', StepQ K CT CW T q H H' z z' (m + 3) → Q (.bl true) H'
theorem ok_Ldeed (T : Txt K mg) (TB : LamX.TabB base mg T.c_bw T.P_bw) : FnOk P w K mg base CX0 13 T.f_deed T.fd_deed ["_law_pool_here", "_law_seat_here"] (spDeed K T.C_Trail T.C_Watching (T0 T)) := by
  have G_take := ok_take (P := P) (w := w) (base := base) T
  have G_back := ok_Lback (P := P) (w := w) (base := base) T (Tt := T0 T)
  have G_lot := ok_Llot (P := P) (w := w) (base := base) T TB
  have G_forget := ok_Lforget (P := P) (w := w) (base := base) T (Tt := T0 T)
  have G_depth := ok_Ldepth (P := P) (w := w) (base := base) T (Tt := T0 T)
  have G_open := ok_Lopen (P := P) (w := w) (base := base) T (Tt := T0 T)
  have G_Trail_choose := ok_choose (P := P) (w := w) (base := base) T
  have G_Trail_force := ok_force (P := P) (w := w) (base := base) T
  refine T.F_deed.ok sc_deed (fun vs H Q E h => ?_) (fun cdv A outer s H vs Q E hr h => ?_)
  · obtain ⟨q, z, m, rfl, _⟩ := h
    rfl
  · obtain ⟨q, z, m, rfl, hp, hq, so, si, hm, h⟩ := h
    have hs3 : atI z.line 3 = some (.ref z.Ac) := rfl
    have hcl : (refs z.cs).length = z.x.D.cs.length := by unfold refs; rw [List.length_map, si.cs]
    have hl := si.len
    have hdl : dep z.rs ≤ z.rs.length := List.countP_le_length
    refine ⟨_, (pss_cons (ps_set (i := 2) sc_deed.nd rfl (.inl rfl) (pe_call G_take (hr.mono (by first | decide | omega)) (by rfl) T.g_take T.F_take.kp T.b_take .nil pass0 (pa_cons (pv 0) (pa_cons pe_int pa_nil))))
 (pss_cons (ps_if (PW.pt (pw_and (pt_cmpR op_eq (pv 2) pe_int (nomark _)) (pw_and1 (pt_cmpR op_lt (pe_callB call_len_seq (by rfl) T.m_len (by decide +kernel) (pa_cons (pe_ix ix_list (pv 1) pe_int (fun _ _ => rfl)) pa_nil)) pe_int (nomark _))))) (pss_one (ps_ret (pe_call G_lot (hr.mono (by first | decide | omega)) (by rfl) T.g_lot T.F_lot.kp T.b_lot .nil pass0 (pa_cons (pv 0) (pa_cons (pv 1) (pa_cons (pe_op op_add pe_int (pe_call G_take (hr.mono (by first | decide | omega)) (by rfl) T.g_take T.F_take.kp T.b_take .nil pass0 (pa_cons (pv 0) (pa_cons pe_int pa_nil)))) pa_nil)))))) pss_nil)
 (pss_cons (ps_if (pt_cmpR op_eq (pv 2) pe_int (nomark _)) (pss_one (ps_ret (pe_call G_forget (hr.mono (by first | decide | omega)) (by rfl) T.g_forget T.F_forget.kp T.b_forget .nil pass0 (pa_cons (pv 0) (pa_cons (pv 1) pa_nil))))) pss_nil)
 (pss_cons (ps_if (pt_cmpR op_eq (pv 2) pe_int (nomark _)) (pss_one (ps_ret (pe_call G_back (hr.mono (by first | decide | omega)) (by rfl) T.g_back T.F_back.kp T.b_back .nil pass0 (pa_cons (pv 1) (pa_cons (pe_call G_take (hr.mono (by first | decide | omega)) (by rfl) T.g_take T.F_take.kp T.b_take .nil pass0 (pa_cons (pv 0) (pa_cons (pe_op op_add (pe_call G_depth (hr.mono (by first | decide | omega)) (by rfl) T.g_depth T.F_depth.kp T.b_depth .nil pass0 (pa_cons (pv 1) pa_nil)) pe_int) pa_nil))) pa_nil))))) pss_nil)
 (pss_cons (ps_set (i := 3) sc_deed.nd rfl (.inl rfl) pe_int)
 (pss_cons (ps_if (pt_cmpR op_gt (pv 2) pe_int (nomark _)) (pss_one (ps_set (i := 3) sc_deed.nd rfl (.inl rfl) (pe_call G_depth (hr.mono (by first | decide | omega)) (by rfl) T.g_depth T.F_depth.kp T.b_depth .nil pass0 (pa_cons (pv 1) pa_nil)))) pss_nil)
 (pss_cons (ps_if (pt_cmpR op_gt (pv 2) pe_int (nomark _)) (pss_one (ps_set (i := 3) sc_deed.nd rfl (.inl rfl) (pe_call G_take (hr.mono (by first | decide | omega)) (by rfl) T.g_take T.F_take.kp T.b_take .nil pass0 (pa_cons (pv 0) (pa_cons (pe_op op_add (pv 3) pe_int) pa_nil))))) pss_nil)
 (pss_cons (ps_if (pt_not (pt_val (pe_call G_back (hr.mono (by first | decide | omega)) (by rfl) T.g_back T.F_back.kp T.b_back .nil pass0 (pa_cons (pv 1) (pa_cons (pv 3) pa_nil))))) (pss_one (ps_ret pe_bl)) pss_nil)
 (pss_cons (ps_set (i := 4) sc_deed.nd rfl (.inl rfl) (pe_call G_open (hr.mono (by first | decide | omega)) (by rfl) T.g_open T.F_open.kp T.b_open .nil pass0 (pa_cons (pv 0) (pa_cons (pv 1) pa_nil))))
 (pss_cons (ps_if (PW.pt (pw_or (pt_cmpR op_eq (pv 4) pe_int (nomark _)) (pw_or1 (PW.pt (pw_and (pt_cmpR op_ne (pv 2) pe_int (nomark _)) (pw_and1 (pt_not (pt_val (pe_ix ix_list (pv 1) pe_int (fun _ _ => rfl)))))))))) (pss_one (ps_ret pe_bl)) pss_nil)
 (pss_cons (ps_asg pe_bl (pg_sub (pv 1) pe_int set_list))
 (pss_cons (ps_if (pt_cmpR op_eq (pv 2) pe_int (nomark _)) (pss_cons (ps_set (i := 5) sc_deed.nd rfl (.inl rfl) (pe_call G_take (hr.mono (by first | decide | omega)) (by rfl) T.g_take T.F_take.kp T.b_take .nil pass0 (pa_cons (pv 0) (pa_cons pe_int pa_nil))))
 (pss_cons (ps_asg (pe_op op_cat (pe_ix ix_list (pv 1) pe_int (fun _ _ => rfl)) (pe_lst (pa_cons (pe_tup (pa_cons (pv 4) (pa_cons pe_int (pa_cons (pv 5) (pa_cons pe_bl pa_nil))))) pa_nil))) (pg_sub (pv 1) pe_int set_list))
 (pss_one (ps_ret (pe_cmpR op_isN (pe_meth (pe_ix ix_list (pv 1) pe_int (fun _ _ => rfl)) T.cl_Trail T.M_Trail_force G_Trail_force (hr.mono (by first | decide | omega)) T.b_Trail_force .nil X2.passN (pa_cons (pv 4) (pa_cons (pv 5) pa_nil))) pe_non (nomark _)))))) pss_nil)
 (pss_cons (ps_asg (pe_op op_cat (pe_ix ix_list (pv 1) pe_int (fun _ _ => rfl)) (pe_lst (pa_cons (pe_tup (pa_cons (pv 4) (pa_cons (pe_op op_add (pv 3) pe_int) (pa_cons pe_non (pa_cons pe_bl pa_nil))))) pa_nil))) (pg_sub (pv 1) pe_int set_list))
 (pss_one (ps_ret (pe_cmpR op_isN (pe_meth (pe_ix ix_list (pv 1) pe_int (fun _ _ => rfl)) T.cl_Trail T.M_Trail_choose G_Trail_choose (hr.mono (by first | decide | omega)) T.b_Trail_choose .nil X2.passN (pa_cons (pv 4) pa_nil)) pe_non (nomark _))))))))))))))))), ?_⟩
    refine Z.w_start (σ' := [some (.ref q), some (.ref z.Sa), none, none, none, none]) rfl ?_
    repeat' (first | with_reducible refine seqIf (fun σ' H' => ∃ pk : Int, σ' = [some (.ref q), some (.ref z.Sa), some (.int pk), none, none, none] ∧ PX q H H' ∧ 0 ≤ pk) (fun Rk kk => ?_) ?_ | walk_at "w1")
    · rename_i pk H1 x1 p0 p1
      have so1 := so.px hp hq x1
      have hsa1 := so1.sa
      have hac1 := so1.ac
      have pl1 := x1.pl
      by_cases e0 : pk = 0
      · rw [decide_eq_true e0, if_pos rfl]
        walk_at "w"
        rw [hcl]
        by_cases e1 : z.x.D.cs.length < 12
        · rw [decide_eq_true (show (z.x.D.cs.length : Int) < 12 by omega), if_pos rfl]
          walk_at "w"
          rename_i r2 H2 x2 r20 r21
          obtain ⟨r2, rfl⟩ := Int.eq_ofNat_of_zero_le r20
          have sq2 := ((StepQ.refl so si hp hq).px x1).px x2
          exact ⟨q, z, m, 1 + r2, by rw [show ((1 + r2 : Nat) : Int) = 1 + (r2 : Int) by omega], sq2.gq.pl, hq, sq2.gq.so, si, by omega, fun H3 z3 st3 => h _ _ ((sq2.trans st3).up (by omega) hm)⟩
        · rw [decide_eq_false (show ¬ (z.x.D.cs.length : Int) < 12 by omega), if_neg (by decide)]
          walk_at "w"
          exact kk _ _ ⟨pk, rfl, x1, p0⟩
      · rw [decide_eq_false e0, if_neg (by decide), if_neg (by decide)]
        walk_at "w"
        exact kk _ _ ⟨pk, rfl, x1, p0⟩
    rintro σ' H1 ⟨pk, rfl, x1, p0⟩
    have sq1 := (StepQ.refl so si hp hq).px x1
    have so1 := so.px hp hq x1
    have hsa1 := so1.sa
    have pl1 := x1.pl
    walk_at "w"
    by_cases e1 : pk = 1
    · rw [decide_eq_true e1, if_pos rfl]
      walk_at "w"
      exact ⟨q, z, m, rfl, pl1, hq, so1, si, fun H2 z2 st2 => h _ _ ((sq1.trans st2).up (by omega) hm)⟩
    rw [decide_eq_false e1, if_neg (by decide)]
    walk_at "w"
    by_cases e2 : pk = 2
    · rw [decide_eq_true e2, if_pos rfl]
      walk_at "w"
      refine ⟨z, rfl, so1, by omega, fun H2 s2 => ?_⟩
      have pl2 := pl1.same s2
      walk_at "w"
      rename_i r3 H3 x3 r30 r31
      obtain ⟨r3, rfl⟩ := Int.eq_ofNat_of_zero_le r30
      have sq3 := (sq1.same s2).px x3
      exact ⟨z, m, r3, rfl, sq3.gq.so, si, fun H4 z4 st4 _ _ _ => h _ _ ((sq3.step st4).up (by omega) hm)⟩
    rw [decide_eq_false e2, if_neg (by decide)]
    repeat' (first | with_reducible refine seqIf (fun σ' H' => ∃ lw : Nat, σ' = [some (.ref q), some (.ref z.Sa), some (.int pk), some (.int (lw : Int)), none, none] ∧ PX q H H' ∧ lw ≤ dep z.rs ∧ (pk = 3 → lw = 0)) (fun Rk kk => ?_) ?_ | walk_at "w1")
    · by_cases e3 : 3 < pk
      · rw [decide_eq_true (by omega), if_pos rfl]
        walk_at "w"
        refine ⟨z, rfl, so1, by omega, fun H2 s2 => ?_⟩
        walk_at "w"
        exact kk _ _ ⟨dep z.rs, rfl, x1.same s2, Nat.le_refl _, fun e => by omega⟩
      · rw [decide_eq_false (by omega), if_neg (by decide)]
        walk_at "w"
        exact kk _ _ ⟨0, rfl, x1, Nat.zero_le _, fun _ => rfl⟩
    clear so1 hsa1 pl1 sq1
    rintro σ' H2 ⟨lw, rfl, x2, l1, l2⟩
    have so2 := so.px hp hq x2
    have hsa2 := so2.sa
    have pl2 := x2.pl
    repeat' (first | with_reducible refine seqIf (fun σ' H' => ∃ lw : Nat, σ' = [some (.ref q), some (.ref z.Sa), some (.int pk), some (.int (lw : Int)), none, none] ∧ PX q H H' ∧ lw ≤ dep z.rs ∧ (pk = 3 → lw = 0)) (fun Rk kk => ?_) ?_ | walk_at "w1")
    · by_cases e3 : 6 < pk
      · rw [decide_eq_true (by omega), if_pos rfl]
        walk_at "w"
        rename_i r3 H3 x3 r30 r31
        obtain ⟨r3, rfl⟩ := Int.eq_ofNat_of_zero_le r30
        exact kk _ _ ⟨r3, rfl, x2.trans x3, by omega, fun e => by omega⟩
      · rw [decide_eq_false (by omega), if_neg (by decide)]
        walk_at "w"
        exact kk _ _ ⟨lw, rfl, x2, l1, l2⟩
    clear so2 hsa2 pl2 x2 l1 l2
    rintro σ' H2 ⟨lw, rfl, x2, l1, l2⟩
    have sq2 := (StepQ.refl so si hp hq).px x2
    have so2 := so.px hp hq x2
    have hsa2 := so2.sa
    have pl2 := x2.pl
    walk_at "w"
    refine ⟨z, m, lw, rfl, so2, si, fun H3 z3 st3 er3 ep3 ec3 => ?_⟩
    have sq3 := sq2.step st3
    have hd3 : dep z3.x.rs = lw := by rw [er3, dep_take_min, ← si.rs]; omega
    walk_at "w"
    refine ⟨q, z3, m, by rw [sq3.sa], sq3.gq.pl, sq3.gq.qn, sq3.gq.so, sq3.si, fun l H4 x4 hl4 => ?_⟩
    have sq4 := sq3.px x4
    have so4 := sq4.gq.so
    have hsa4 := so4.sa
    have hs7 : atI z3.line 7 = some (.bl z3.pr) := rfl
    have si4 := sq4.si
    have pl4 := sq4.gq.pl
    have esa := sq4.sa
    rw [← esa]
    have hl3 := si4.len
    have ers := si4.rs
    have hdl3 := si4.hdl
    obtain ⟨k4, inv4, hk4⟩ := si4.inv
    walk_at "w"
    rcases hl4 with rfl | ⟨hl0, hln, hlo, hlo2⟩
    · rw [decide_eq_true (rfl : (0 : Int) = 0), if_pos rfl]
      walk_at "w"
      exact h _ _ (sq4.up (by omega) hm)
    rw [decide_eq_false hl0, if_neg (by decide)]
    have hv : val z3.x.rs l = .non := by
      rw [ers] at hlo hlo2
      unfold val
      rw [if_neg hlo, if_neg hlo2]
    by_cases e3 : pk = 3
    · walk_at "w"
      subst e3
      rw [if_neg (by decide), if_neg (by decide)]
      walk_at "w"
      have g5 := Go.mark so4 false
      have so5 := g5.so
      have hsa5 := so5.sa
      dsimp only at g5 so5 hsa5
      have sq5 := sq4.gq.go g5
      have eL : z3.line.set 7 (.bl false) = SS.line { z3 with pr := false } := rfl
      rw [eL]
      have hs6 : atI (SS.line { z3 with pr := false }) 6 = some (.ref z3.Ar) := rfl
      generalize upd H4 z3.Sa (.lst (SS.line { z3 with pr := false })) = H5 at g5 so5 hsa5 sq5 ⊢
      have pl5 := sq5.pl
      walk_at "w"
      rename_i r5 H6 x6 r50 r51
      obtain ⟨r5, rfl⟩ := Int.eq_ofNat_of_zero_le r50
      have sq6 := sq5.px x6
      have so6 := sq6.so
      have har6 := so6.ar
      have hsa6 := so6.sa
      walk_at "w"
      rename_i t ft p fp
      have s7 := same_of (same_of (Same.refl H6) ft (o := .tup [.int l, .int 0, .int (r5 : Int), .bl true])) fp (o := .lst [.ref t])
      have et : upd (upd H6 t (.tup [.int l, .int 0, .int (r5 : Int), .bl true])) p (.lst [.ref t]) t = some (.tup [.int l, .int 0, .int (r5 : Int), .bl true]) := upd_of fp upd_same
      have ep : upd (upd H6 t (.tup [.int l, .int 0, .int (r5 : Int), .bl true])) p (.lst [.ref t]) p = some (.lst [.ref t]) := upd_same
      generalize upd (upd H6 t (.tup [.int l, .int 0, .int (r5 : Int), .bl true])) p (.lst [.ref t]) = H7 at s7 et ep ⊢
      have so7 := so6.same s7
      have hul : z3.us.length = z3.rs.length := so7.rv.1
      have har7 : H7 z3.Ar = some (.lst z3.us) := so7.ar
      refine w_cat har7 ep (by rw [hul]; show _ + 1 ≤ 1000; omega) fun p2 f2 => ?_
      have s8 := same_of (Same.refl H7) f2 (o := .lst (z3.us ++ [.ref t]))
      have so8 := so7.same s8
      have rv8 : RowsH (upd H7 p2 (.lst (z3.us ++ [.ref t]))) (z3.us ++ [.ref t]) (z3.rs ++ [(l, some (r5 : Int))]) (z3.hd ++ [true]) := by
        have := so8.rv
        refine this.snoc hdl3 (p := t) (upd_of f2 ?_)
        rw [dep_force, ers, hd3, l2 rfl]
        exact et
      have ep2 : upd H7 p2 (.lst (z3.us ++ [.ref t])) p2 = some (.lst (z3.us ++ [.ref t])) := upd_same
      generalize upd H7 p2 (.lst (z3.us ++ [.ref t])) = H8 at rv8 so8 s8 ep2 ⊢
      have g9 := Go.rows' so8 ((DX.refl _ _).same s8) ep2 f2 rv8 (so7.fresh f2)
      have hsa8 := so8.sa
      have so9 := g9.so
      have hsa9 := so9.sa
      dsimp only at g9 so9 hsa9 hsa8
      walk_at "w"
      have eL2 : (SS.line { z3 with pr := false }).set 6 (.ref p2) = SS.line { z3 with pr := false, Ar := p2 } := rfl
      rw [eL2]
      generalize upd H8 z3.Sa (.lst (SS.line { z3 with pr := false, Ar := p2 })) = H9 at g9 so9 hsa9 ⊢
      have hs0' : atI (SS.line { z3 with pr := false, Ar := p2, us := z3.us ++ [V.ref t], rs := z3.rs ++ [(l, some (r5 : Int))], hd := z3.hd ++ [true] }) 0 = some (.ref z3.x.tr) := rfl
      refine w_methF ?_
      walk_at "w"
      refine ⟨_, _, _, rfl, so9.ok.ta.obj, by rfl, ?_⟩
      walk_at "w"
      refine ⟨z3.x.tr, z3.x.t, z3.x.ns, z3.x.rs, l, (r5 : Int), rfl, so9.ok.ta, (inv4.nz hln).2, by rw [← ers]; omega, fun _ HA dA taA => ?_, fun zz => absurd ⟨hln, hv⟩ zz⟩
      have okA : WOk K T.C_Trail T.C_Watching HA (z3.x.frc l r5) := so9.ok.trX dA taA
      have gA := Go.prog (x' := z3.x.frc l r5) so9 (so9.ok.trD (T := T0 T) dA) okA rfl rfl rfl
      walk_at "w"
      have sqA : Gq K T.C_Trail T.C_Watching (T0 T) q H HA z { z3 with x := z3.x.frc l r5, pr := false, Ar := p2, us := z3.us ++ [V.ref t], rs := z3.rs ++ [(l, some (r5 : Int))], hd := z3.hd ++ [true] } := ((sq6.same s7).go g9).go gA
      refine h _ { z3 with x := z3.x.frc l r5, pr := false, Ar := p2, us := z3.us ++ [V.ref t], rs := z3.rs ++ [(l, some (r5 : Int))], hd := z3.hd ++ [true] } (StepQ.up (m := m) ⟨sqA, ?_, sq4.ns, sq4.dn⟩ (by omega) hm)
      refine ⟨⟨k4, inv4.frc hln (by rw [← ers]; exact hlo) (by rw [← ers]; exact hlo2), fun hh => by cases hh⟩, si4.cs, si4.so, si4.fg, ?_, ?_, ?_, si4.cap, si4.lk⟩
      · show z3.rs ++ [(l, some (r5 : Int))] = z3.x.rs ++ [(l, some (r5 : Int))]
        rw [ers]
      · show RInvH (z3.x.D.cs.map (·.2)) z3.x.D.fg (z3.x.rs ++ [(l, some (r5 : Int))]) (z3.hd ++ [true])
        exact si4.rr.hand (by rw [hdl3, ers]) _
      · show (z3.hd ++ [true]).length = (z3.rs ++ [(l, some (r5 : Int))]).length
        rw [List.length_append, List.length_append, hdl3]
        rfl
    · walk_at "w"
      rw [if_pos (by simp [e3])]
      walk_at "w"
      cases hpr : z3.pr with
      | false =>
        rw [if_pos (by rfl)]
        walk_at "w"
        exact h _ _ (sq4.up (by omega) hm)
      | true =>
        rw [if_neg (by decide)]
        walk_at "w"
        rename_i t ft p fp
        have g5 := Go.mark so4 false
        have so5 := g5.so
        have hsa5 := so5.sa
        dsimp only at g5 so5 hsa5
        have sq5 := sq4.gq.go g5
        have eL : z3.line.set 7 (.bl false) = SS.line { z3 with pr := false } := rfl
        rw [eL] at ft fp ⊢
        have hs6 : atI (SS.line { z3 with pr := false }) 6 = some (.ref z3.Ar) := rfl
        generalize upd H4 z3.Sa (.lst (SS.line { z3 with pr := false })) = H5 at g5 so5 hsa5 sq5 ft fp ⊢
        have pl5 := sq5.pl
        have sq6 := sq5
        have so6 := sq6.so
        have har6 := so6.ar
        have s7 := same_of (same_of (Same.refl H5) ft (o := .tup [.int l, .int ((lw : Int) + 1), .non, .bl true])) fp (o := .lst [.ref t])
        have et : upd (upd H5 t (.tup [.int l, .int ((lw : Int) + 1), .non, .bl true])) p (.lst [.ref t]) t = some (.tup [.int l, .int ((lw : Int) + 1), .non, .bl true]) := upd_of fp upd_same
        have ep : upd (upd H5 t (.tup [.int l, .int ((lw : Int) + 1), .non, .bl true])) p (.lst [.ref t]) p = some (.lst [.ref t]) := upd_same
        generalize upd (upd H5 t (.tup [.int l, .int ((lw : Int) + 1), .non, .bl true])) p (.lst [.ref t]) = H7 at s7 et ep ⊢
        have so7 := so6.same s7
        have hul : z3.us.length = z3.rs.length := so7.rv.1
        have har7 : H7 z3.Ar = some (.lst z3.us) := so7.ar
        refine w_cat har7 ep (by rw [hul]; show _ + 1 ≤ 1000; omega) fun p2 f2 => ?_
        have s8 := same_of (Same.refl H7) f2 (o := .lst (z3.us ++ [.ref t]))
        have so8 := so7.same s8
        have rv8 : RowsH (upd H7 p2 (.lst (z3.us ++ [.ref t]))) (z3.us ++ [.ref t]) (z3.rs ++ [(l, none)]) (z3.hd ++ [true]) := by
          have := so8.rv
          refine this.snoc hdl3 (p := t) (upd_of f2 ?_)
          rw [dep_choose, ers, hd3]
          exact et
        have ep2 : upd H7 p2 (.lst (z3.us ++ [.ref t])) p2 = some (.lst (z3.us ++ [.ref t])) := upd_same
        generalize upd H7 p2 (.lst (z3.us ++ [.ref t])) = H8 at rv8 so8 s8 ep2 ⊢
        have g9 := Go.rows' so8 ((DX.refl _ _).same s8) ep2 f2 rv8 (so7.fresh f2)
        have hsa8 := so8.sa
        have so9 := g9.so
        have hsa9 := so9.sa
        dsimp only at g9 so9 hsa9 hsa8
        walk_at "w"
        have eL2 : (SS.line { z3 with pr := false }).set 6 (.ref p2) = SS.line { z3 with pr := false, Ar := p2 } := rfl
        rw [eL2]
        generalize upd H8 z3.Sa (.lst (SS.line { z3 with pr := false, Ar := p2 })) = H9 at g9 so9 hsa9 ⊢
        have hs0' : atI (SS.line { z3 with pr := false, Ar := p2, us := z3.us ++ [V.ref t], rs := z3.rs ++ [(l, none)], hd := z3.hd ++ [true] }) 0 = some (.ref z3.x.tr) := rfl
        refine w_methF ?_
        walk_at "w"
        refine ⟨_, _, _, rfl, so9.ok.ta.obj, by rfl, ?_⟩
        walk_at "w"
        refine ⟨z3.x.tr, z3.x.t, z3.x.ns, z3.x.rs, l, 0, rfl, so9.ok.ta, (inv4.nz hln).2, by rw [← ers]; omega, fun _ HA dA taA => ?_, fun zz => absurd ⟨hln, hv⟩ zz⟩
        have okA : WOk K T.C_Trail T.C_Watching HA (z3.x.chs l) := so9.ok.trX dA taA
        have gA := Go.prog (x' := z3.x.chs l) so9 (so9.ok.trD (T := T0 T) dA) okA rfl rfl rfl
        walk_at "w"
        have sqA : Gq K T.C_Trail T.C_Watching (T0 T) q H HA z { z3 with x := z3.x.chs l, pr := false, Ar := p2, us := z3.us ++ [V.ref t], rs := z3.rs ++ [(l, none)], hd := z3.hd ++ [true] } := ((sq6.same s7).go g9).go gA
        refine h _ { z3 with x := z3.x.chs l, pr := false, Ar := p2, us := z3.us ++ [V.ref t], rs := z3.rs ++ [(l, none)], hd := z3.hd ++ [true] } (StepQ.up (m := m) ⟨sqA, ?_, sq4.ns, sq4.dn⟩ (by omega) hm)
        refine ⟨⟨_, ((hk4 hpr).1 ▸ inv4 : WInv z3.x z3.x.rs.length).chs (hk4 hpr).2 hln (by rw [← ers]; exact hlo) (by rw [← ers]; exact hlo2), fun hh => by cases hh⟩, si4.cs, si4.so, si4.fg, ?_, ?_, ?_, si4.cap, si4.lk⟩
        · show z3.rs ++ [(l, none)] = z3.x.rs ++ [(l, none)]
          rw [ers]
        · show RInvH (z3.x.D.cs.map (·.2)) z3.x.D.fg (z3.x.rs ++ [(l, none)]) (z3.hd ++ [true])
          exact si4.rr.hand (by rw [hdl3, ers]) _
        · show (z3.hd ++ [true]).length = (z3.rs ++ [(l, none)]).length
          rw [List.length_append, List.length_append, hdl3]
          rfl
end
end L

namespace L
open PySem PySem.Spec PyProof.Rows L2 Z M MR MT X2
open _root_.SX (S S_len S_cat S_inj)
section
variable {P : Program} {w : World} {K : PySem.W.Frag} {mg : Str → Option Value} {base : Heap}
def spKept (K : PySem.W.Frag) (CT CW : Addr) (T : Tb) : Sp := fun vs H Q _ => ∃ (z : SS) (m : Nat), vs = [.ref z.Sa] ∧ SOk K CT CW T H z ∧ SInv z m ∧ ∀ H', Same H H' → Q (.bl true) H'
theorem ok_Lkept (T : Txt K mg) {Tt : Tb} : FnOk P w K mg base CX0 4 T.f_kept T.fd_kept ["_law_seat_here"] (spKept K T.C_Trail T.C_Watching Tt) := by
  have G_list := ok_list (P := P) (w := w) (base := base) T
  have G_alike := ok_alike (P := P) (w := w) (base := base) T
  have G_watched := ok_Lwatched (P := P) (w := w) (base := base) T (Tt := Tt)
  have G_Watching_clause := ok_wclause (P := P) (w := w) (base := base) T
  have G_Watching_source := ok_wsource (P := P) (w := w) (base := base) T
  have G_Watching_size := ok_wsize (P := P) (w := w) (base := base) T
  refine T.F_kept.ok sc_kept (fun vs H Q E h => ?_) (fun cdv A outer s H vs Q E hr h => ?_)
  · obtain ⟨z, m, rfl, _⟩ := h
    rfl
  · obtain ⟨z, m, rfl, so, si, h⟩ := h
    obtain ⟨k0, inv, _⟩ := si.inv
    have hsa := so.sa
    have hac := so.ac
    have hs1 : atI z.line 1 = some (.ref z.x.o) := rfl
    have hs3 : atI z.line 3 = some (.ref z.Ac) := rfl
    have hs4 : atI z.line 4 = some (.ref z.As) := rfl
    have hs5 : atI z.line 5 = some (.ref z.Af) := rfl
    have cap := si.cap
    have fln := inv.fln
    have hcl : (refs z.cs).length = z.x.D.cs.length := by unfold refs; rw [List.length_map, si.cs]
    refine ⟨_, (pss_cons (ps_for PassesOwn.never rfl (pi_range1 (by rfl) T.m_range (pa_cons (pe_callB call_len_seq (by rfl) T.m_len (by decide +kernel) (pa_cons (pe_ix ix_list (pv 0) pe_int (fun _ _ => rfl)) pa_nil)) pa_nil)) (pg_name (i := 1) sc_kept.nd rfl (.inl rfl)) (pss_cons (ps_set (i := 2) sc_kept.nd rfl (.inl rfl) (pe_meth (pe_ix ix_list (pv 0) pe_int (fun _ _ => rfl)) T.cl_Watching T.M_Watching_clause G_Watching_clause (hr.mono (by first | decide | omega)) T.b_Watching_clause .nil pass0 (pa_cons (pv 1) pa_nil)))
 (pss_cons (ps_if (PW.pt (pw_or (pt_not (pt_val (pe_callB call_isi (by rfl) T.m_isinstance (by decide +kernel) (pa_cons (pv 2) (pa_cons (pe_bltn (v := .ty "tuple") (by rfl) T.m_tuple (by decide +kernel) rfl) pa_nil))))) (pw_or1 (pt_not (pt_val (pe_call G_list (hr.mono (by first | decide | omega)) (by rfl) T.g_list T.F_list.kp T.b_list .nil pass0 (pa_cons (pe_callTy call_list_of (by rfl) T.m_list (by decide +kernel) (pa_cons (pv 2) pa_nil)) (pa_cons (pe_callTy call_list_of (by rfl) T.m_list (by decide +kernel) (pa_cons (pe_ix ix_list (pe_ix ix_list (pv 0) pe_int (fun _ _ => rfl)) (pv 1) (fun _ _ => rfl)) pa_nil)) pa_nil)))))))) (pss_one (ps_ret pe_bl)) pss_nil)
 (pss_one (ps_if (PW.pt (pw_or (pt_not (pt_val (pe_call G_alike (hr.mono (by first | decide | omega)) (by rfl) T.g_alike T.F_alike.kp T.b_alike .nil pass0 (pa_cons (pe_meth (pe_ix ix_list (pv 0) pe_int (fun _ _ => rfl)) T.cl_Watching T.M_Watching_source G_Watching_source (hr.mono (by first | decide | omega)) T.b_Watching_source .nil pass0 (pa_cons (pv 1) pa_nil)) (pa_cons (pe_ix ix_list (pe_ix ix_list (pv 0) pe_int (fun _ _ => rfl)) (pv 1) (fun _ _ => rfl)) pa_nil))))) (pw_or1 (PW.pt (pw_and (pt_not (pt_val (pe_ix ix_list (pe_ix ix_list (pv 0) pe_int (fun _ _ => rfl)) (pv 1) (fun _ _ => rfl)))) (pw_and1 (pt_not (pt_val (pe_call G_watched (hr.mono (by first | decide | omega)) (by rfl) T.g_watched T.F_watched.kp T.b_watched .nil pass0 (pa_cons (pv 0) (pa_cons (pv 1) pa_nil))))))))))) (pss_one (ps_ret pe_bl)) pss_nil)))))
 (pss_one (ps_ret (pe_call G_alike (hr.mono (by first | decide | omega)) (by rfl) T.g_alike T.F_alike.kp T.b_alike .nil pass0 (pa_cons (pe_meth0 (pe_ix ix_list (pv 0) pe_int (fun _ _ => rfl)) T.cl_Watching T.M_Watching_size G_Watching_size (hr.mono (by first | decide | omega)) T.b_Watching_size .nil pass0) (pa_cons (pe_callB call_len_seq (by rfl) T.m_len (by decide +kernel) (pa_cons (pe_ix ix_list (pv 0) pe_int (fun _ _ => rfl)) pa_nil)) pa_nil)))))), ?_⟩
    refine Z.w_start (σ' := [some (.ref z.Sa), none, none]) rfl ?_
    walk_at "w"
    rw [hcl]
    refine ⟨by omega, by omega, ?_⟩
    refine for_range (fun i σ H' => ∃ x1 x2, σ = [some (.ref z.Sa), x1, x2] ∧ Same H H') ?_ ?_ ?_
    · exact ⟨_, _, rfl, Same.refl _⟩
    · rintro i σ H1 hi ⟨x1, x2, rfl, s1⟩
      have hi : i < z.x.D.cs.length := by omega
      have so1 := so.same s1
      have hsa1 := so1.sa
      have hac1 := so1.ac
      have has1 := so1.as
      have haf1 := so1.af
      have ec : z.x.D.cs[i]? = some z.x.D.cs[i] := List.getElem?_eq_getElem hi
      generalize z.x.D.cs[i] = cc at ec
      have ccm := List.mem_of_getElem? ec
      have hcS := so1.ct cc (by rw [si.cs]; exact ccm)
      have hcl2 : cc.2.length ≤ 100 := over_len inv.nsl.1 (inv.cl cc ccm).1 (inv.cl cc ccm).2
      have a1 : atI (refs z.cs) (i : Int) = some (.ref cc.1) := atI_nat (by unfold refs; rw [List.getElem?_map, si.cs, ec]; rfl)
      have his : i < z.x.D.so.length := by rw [si.so.2.2]; exact hi
      have es : z.x.D.so[i]? = some z.x.D.so[i] := List.getElem?_eq_getElem his
      generalize z.x.D.so[i] = sv at es
      have a2 : atI (z.so.map V.int) (i : Int) = some (.int sv) := atI_nat (by rw [List.getElem?_map, si.so.2.1, es]; rfl)
      have hif : i < z.fg.length := by rw [si.fg, fln]; exact hi
      have ef : z.fg[i]? = some z.fg[i] := List.getElem?_eq_getElem hif
      generalize z.fg[i] = fb at ef
      have a3 : atI (z.fg.map V.bl) (i : Int) = some (.bl fb) := atI_nat (by rw [List.getElem?_map, ef]; rfl)
      have ec2 : (z.cs.map (·.2))[i]? = some cc.2 := by rw [si.cs, List.getElem?_map, ec]; rfl
      rw [Int.zero_add]
      walk_at "w"
      refine w_methF ?_
      walk_at "w"
      refine ⟨_, _, _, rfl, so1.ok.wa.obj, by rfl, ?_⟩
      walk_at "w"
      refine ⟨z.x, i, cc, rfl, so1.ok, ec, ?_⟩
      walk_at "w"
      refine w_isi_sqT hcS ?_
      refine ⟨true, rfl, ?_⟩
      walk_at "w"
      intro p1 f1
      have s2 := same_of (Same.refl H1) f1 (o := .lst (cc.2.map V.int))
      have e1 : upd H1 p1 (.lst (cc.2.map V.int)) p1 = some (.lst (cc.2.map V.int)) := upd_same
      generalize upd H1 p1 (.lst (cc.2.map V.int)) = H2 at s2 e1 ⊢
      have so2 := so1.same s2
      have hsa2 := so2.sa
      have hac2 := so2.ac
      have hcS2 := Evl.ex_t s2 hcS
      walk_at "w"
      intro p2 f2
      have s3 := s2.trans (same_of (Same.refl H2) f2 (o := .lst (cc.2.map V.int)))
      have e13 : upd H2 p2 (.lst (cc.2.map V.int)) p1 = some (.lst (cc.2.map V.int)) := upd_of f2 e1
      have e23 : upd H2 p2 (.lst (cc.2.map V.int)) p2 = some (.lst (cc.2.map V.int)) := upd_same
      generalize upd H2 p2 (.lst (cc.2.map V.int)) = H3 at s3 e13 e23 ⊢
      walk_at "w"
      refine use_list e13 e23 (fun u hu => ?_) (by rw [List.length_map]; omega) ?_
      · obtain ⟨y, _, rfl⟩ := List.mem_map.mp hu
        exact ⟨y, rfl⟩
      have so3 := so1.same s3
      have hsa3 := so3.sa
      have has3 := so3.as
      have haf3 := so3.af
      walk_at "w"
      refine w_methF ?_
      walk_at "w"
      refine ⟨_, _, _, rfl, so3.ok.wa.obj, by rfl, ?_⟩
      walk_at "w"
      refine ⟨z.x, i, sv, rfl, so3.ok, es, ?_⟩
      walk_at "w"
      refine use_alike (.inr ⟨_, rfl⟩) ?_
      walk_at "w"
      cases fb with
      | true =>
        walk_at "w"
        first | exact s1.trans s3 | exact ⟨_, _, rfl, s1.trans s3⟩
      | false =>
        have hwl : i < z.x.D.wp.length := by
          rw [inv.ci.wl, List.length_map]
          exact hi
        have ew : z.x.D.wp[i]? = some z.x.D.wp[i] := List.getElem?_eq_getElem hwl
        have o := inv.ci.one i cc.2 _ (by rw [List.getElem?_map, ec]; rfl) ew (by
          show z.x.D.fg.getD i false = false
          rw [← si.fg, List.getD_eq_getElem?_getD, ef]
          rfl)
        walk_at "w"
        refine ⟨z, i, cc.2, _, rfl, so3, ec2, ew, wd_of o, fun H4 s4 => ?_⟩
        walk_at "w"
        first | exact (s1.trans s3).trans s4 | exact ⟨_, _, rfl, (s1.trans s3).trans s4⟩
    · rintro σ H1 ⟨x1, x2, rfl, s1⟩
      have so1 := so.same s1
      have hsa1 := so1.sa
      have hac1 := so1.ac
      walk_at "w"
      refine w_methF ?_
      walk_at "w"
      refine ⟨_, _, _, rfl, so1.ok.wa.obj, by rfl, ?_⟩
      walk_at "w"
      refine ⟨z.x, rfl, so1.ok, ?_⟩
      walk_at "w"
      rw [hcl]
      refine use_alike (.inr ⟨_, rfl⟩) ?_
      exact h _ s1
end
end L

namespace L
open PySem PySem.Spec PyProof.Rows L2 Z M MR MT X2
open _root_.SX (S S_len S_cat S_inj)
section
variable {P : Program} {w : World} {K : PySem.W.Frag} {mg : Str → Option Value} {base : Heap}
theorem w_make {C : Addr} {sp : Sp} {dvs : List V} {E : XK} {t : TA} {σ : L2.St} {H : Hp} {Q : VK} (h : t σ H fun vs H1 => ∀ x dx, H1 x = none → H1 dx = none → dx ≠ x → sp (.ref x :: (vs ++ dvs)) (upd (upd H1 dx (.own x)) x (.ins C dx [])) (fun v H2 => v = .non ∧ Q (.ref x) H2) E) : tMake C sp dvs E t σ H Q := h
def spSeat (K : PySem.W.Frag) (CT CW : Addr) (T : Tb) : Sp := fun vs H Q _ => ∃ (q : Addr), vs = [.ref q] ∧ PoolAt H q ∧ LamX.Tabs T H ∧
  ∀ z H', PX q H H' → (∀ b ∈ z.x.t.dn :: z.all, H b = none) → SOk K CT CW T H' z → SInv z 0 → Q (.ref z.Sa) H'
theorem ok_Lseat (T : Txt K mg) {Tt : Tb} : FnOk P w K mg base CX0 3 T.f_seat T.fd_seat ["_law_pool_here"] (spSeat K T.C_Trail T.C_Watching Tt) := by
  have G_take := ok_take (P := P) (w := w) (base := base) T
  have G_Trail_init := ok_initL (P := P) (w := w) (base := base) T
  have G_Watching_init := ok_winit (P := P) (w := w) (base := base) T
  refine T.F_seat.ok sc_seat (fun vs H Q E h => ?_) (fun cdv A outer s H vs Q E hr h => ?_)
  · obtain ⟨q, rfl, _⟩ := h
    rfl
  · obtain ⟨q, rfl, hp, tb, h⟩ := h
    refine ⟨_, (pss_cons (ps_set (i := 1) sc_seat.nd rfl (.inl rfl) (pe_ix ix_tup (pe_tup (pa_cons pe_int (pa_cons pe_int (pa_cons pe_int (pa_cons pe_int (pa_cons pe_int (pa_cons pe_int (pa_cons pe_int (pa_cons pe_int (pa_cons pe_int (pa_cons pe_int (pa_cons pe_int (pa_cons pe_int (pa_cons pe_int (pa_cons pe_int (pa_cons pe_int (pa_cons pe_int pa_nil))))))))))))))))) (pe_call G_take (hr.mono (by first | decide | omega)) (by rfl) T.g_take T.F_take.kp T.b_take .nil pass0 (pa_cons (pv 0) (pa_cons pe_int pa_nil))) (fun _ _ => rfl)))
 (pss_cons (ps_set (i := 2) sc_seat.nd rfl (.inl rfl) (pe_tup (pa_cons pe_int (pa_cons pe_int (pa_cons pe_int (pa_cons (pe_op op_fdiv pe_int (pe_callB (call_max2 rfl) (by rfl) T.m_max (by decide +kernel) (pa_cons pe_int (pa_cons (pv 1) pa_nil)))) pa_nil))))))
 (pss_cons (ps_set (i := 3) sc_seat.nd rfl (.inl rfl) (pe_lst pa_nil))
 (pss_cons (ps_set (i := 4) sc_seat.nd rfl (.inl rfl) pe_int)
 (pss_cons (ps_for PassesOwn.never rfl (pi_range1 (by rfl) T.m_range (pa_cons (pv 1) pa_nil)) (pg_name (i := 5) sc_seat.nd rfl (.inl rfl)) (pss_cons (ps_set (i := 4) sc_seat.nd rfl (.inl rfl) (pe_op op_add (pe_op op_add (pv 4) pe_int) (pe_call G_take (hr.mono (by first | decide | omega)) (by rfl) T.g_take T.F_take.kp T.b_take .nil pass0 (pa_cons (pv 0) (pa_cons (pe_ix ix_tup (pv 2) (pe_call G_take (hr.mono (by first | decide | omega)) (by rfl) T.g_take T.F_take.kp T.b_take .nil pass0 (pa_cons (pv 0) (pa_cons pe_int pa_nil))) (fun _ _ => rfl)) pa_nil)))))
 (pss_one (ps_expr (pe_bm PySem.F.plainAttrs_list PySem.F.slot_list_append PySem.F.type_list_append mt_append (pv 3) (pa_cons (pv 4) pa_nil))))))
 (pss_cons (ps_set (i := 6) sc_seat.nd rfl (.inl rfl) (pe_lst pa_nil))
 (pss_cons (ps_if (PW.pt (pw_or (pt_cmpR op_eq (pe_call G_take (hr.mono (by first | decide | omega)) (by rfl) T.g_take T.F_take.kp T.b_take .nil pass0 (pa_cons (pv 0) (pa_cons pe_int pa_nil))) pe_int (nomark _)) (pw_or1 (pt_cmpR op_gt (pv 1) pe_int (nomark _))))) (pss_one (ps_setLc (i := 6) (own := [("_law_n", 7)]) (g := gName 7) (tt := tYes) (by rfl) sc_seat.nd rfl rfl (sw_true rfl rfl rfl (by decide +kernel)) (pi_list (pv 3)) (blkOk_by (own := [("_law_n", 7)]) (N := N_seat) (sc := defScope s_seat) (by decide +kernel)) (fun _ _ _ _ _ => pg_name (i := 7) sc_seat.nd rfl (Or.inl rfl)) (fun _ _ _ _ _ => pts_nil) (fun _ _ _ _ _ => (pe_op op_sub (pv 7) (pe_op op_mul (pe_op op_mul pe_int (pv 7)) (pe_call G_take (hr.mono (by first | decide | omega)) (by rfl) T.g_take T.F_take.kp T.b_take .nil pass0 (pa_cons (pv 0) (pa_cons pe_int pa_nil)))))))) pss_nil)
 (pss_cons (ps_set (i := 8) sc_seat.nd rfl (.inl rfl) (pe_make T.mk_Trail G_Trail_init (hr.mono (by first | decide | omega)) (by rfl) T.c_Trail T.b_Trail_init .nil pass0 (pa_cons (pe_callTy call_list_of (by rfl) T.m_list (by decide +kernel) (pa_cons (pv 3) pa_nil)) pa_nil)))
 (pss_one (ps_ret (pe_lst (pa_cons (pv 8) (pa_cons (pe_make T.mk_Watching G_Watching_init (hr.mono (by first | decide | omega)) (by rfl) T.c_Watching T.b_Watching_init .nil pass0 (pa_cons (pv 8) pa_nil)) (pa_cons (pv 3) (pa_cons (pe_lst pa_nil) (pa_cons (pe_lst pa_nil) (pa_cons (pe_lst pa_nil) (pa_cons (pe_lst pa_nil) (pa_cons pe_bl (pa_cons (pv 6) pa_nil)))))))))))))))))))), ?_⟩
    refine Z.w_start (σ' := [some (.ref q), none, none, none, none, none, none, none, none]) rfl ?_
    walk_at "w"
    rename_i t0 ft r H1 x1 r0 r1
    obtain ⟨many, za, zm⟩ := pick (ns := [5, 4, 6, 7, 1, 5, 6, 2, 7, 3, 4, 5, 24, 7, 6, 0]) r0 r1
    have zb : 0 ≤ many ∧ many ≤ 24 := by
      simp only [List.mem_cons, List.not_mem_nil, or_false] at zm
      omega
    refine Z.w_ixTH (x1.mo _ _ (fun l e => by cases e) upd_same) za ?_
    have y1 : PX q H H1 := ((PX.refl hp).new ft).trans x1
    walk_at "w"
    rename_i gp fgp ln fln
    refine ⟨by omega, by omega, ?_⟩
    have hgap : 1 ≤ 3900 / (if many > 8 then many else 8) ∧ 3900 / (if many > 8 then many else 8) ≤ 487 := by
      simp only [List.mem_cons, List.not_mem_nil, or_false] at zm
      rcases zm with rfl | rfl | rfl | rfl | rfl | rfl | rfl | rfl | rfl | rfl | rfl | rfl | rfl | rfl | rfl | rfl <;> decide
    generalize 3900 / (if many > 8 then many else 8) = gap at hgap fln ⊢
    have y2 := y1.new fgp (o := .tup [.int 1, .int 3, .int 40, .int gap])
    have y3 := y2.new fln (o := .lst [])
    have egp : (upd (upd H1 gp (.tup [.int 1, .int 3, .int 40, .int gap])) ln (.lst [])) gp = some (.tup [.int 1, .int 3, .int 40, .int gap]) := upd_of fln upd_same
    have eln : (upd (upd H1 gp (.tup [.int 1, .int 3, .int 40, .int gap])) ln (.lst [])) ln = some (.lst []) := upd_same
    have nlq : ln ≠ q := fun e => by
      obtain ⟨o, h1, _⟩ := y2.pl
      rw [← e, fln] at h1
      cases h1
    have ngq : gp ≠ q := fun e => by
      obtain ⟨o, h1, _⟩ := y1.pl
      rw [← e, fgp] at h1
      cases h1
    have ngl : gp ≠ ln := fun e => by rw [e, upd_same] at fln; cases fln
    have flnH : H ln = none := fresh_px y2 hp fln
    refine for_range (fun i σ H' => ∃ (node : Int) (x5 : Option V) (ns : List Int), σ = [some (.ref q), some (.int many), some (.ref gp), some (.ref ln), some (.int node), x5, none, none, none] ∧ PX q H H' ∧ H' gp = some (.tup [.int 1, .int 3, .int 40, .int gap]) ∧ H' ln = some (.lst (ns.map V.int)) ∧ ns.length = i ∧ 0 ≤ node ∧ node ≤ 500 * (i : Int) ∧ (∀ n ∈ ns, 0 < n ∧ n ≤ node) ∧ ns.Pairwise (· < ·)) ?_ ?_ ?_
    · exact ⟨0, _, [], rfl, y3, egp, eln, rfl, Int.le_refl _, by omega, (fun n hn => by cases hn), .nil⟩
    · rintro i σ H2 hi ⟨node, x5, ns, rfl, px, eg, el, hns, n0, n1, hall, hpw⟩
      have pl := px.pl
      have hi2 : i < 24 := by omega
      walk_at "w"
      rename_i r2 H3 x3 r20 r21
      obtain ⟨g, ga, gm⟩ := pick (ns := [1, 3, 40, gap]) r20 r21
      have gb : 1 ≤ g ∧ g ≤ 487 := by
        simp only [List.mem_cons, List.not_mem_nil, or_false] at gm
        omega
      refine Z.w_ixTH (x3.sx _ _ ngq eg) ga ?_
      have pl3 := x3.pl
      walk_at "w"
      rename_i r4 H4 x4 r40 r41
      have eg4 := x4.sx _ _ ngq (x3.sx _ _ ngq eg)
      have el4 := x4.sx _ _ nlq (x3.sx _ _ nlq el)
      have px4 := (px.trans x3).trans x4
      refine Z.w_bm ?_
      walk_at "w"
      refine ⟨.inl ⟨rfl, _, .inl (.inl el4)⟩, ?_⟩
      walk_at "w"
      refine ⟨ln, _, _, rfl, rfl, el4, by rw [List.length_map]; exact Nat.lt_of_le_of_lt (show ns.length ≤ 1000 by omega) (by decide), ?_⟩
      refine ⟨node + 1 + r4, _, ns ++ [node + 1 + r4], rfl, px4.mutN flnH nlq, by rw [upd_ne ngl]; exact eg4, by rw [upd_same, List.map_append]; rfl, by rw [List.length_append, hns]; rfl, by omega, by omega, fun n hn => ?_, ?_⟩
      · rcases List.mem_append.mp hn with hn | hn
        · have := hall n hn
          omega
        · rw [List.mem_singleton.mp hn]
          omega
      · rw [List.pairwise_append]
        refine ⟨hpw, List.pairwise_singleton _ _, fun x hx y hy => ?_⟩
        rw [List.mem_singleton.mp hy]
        have := hall x hx
        omega
    · rintro σ H2 ⟨node, x5, ns, rfl, px, eg, el, hns, n0, n1, hall, hpw⟩
      have pl := px.pl
      have hnl : ns.length ≤ 24 := by omega
      have hnb : ∀ n ∈ ns, 0 < n ∧ n < 10 ^ 9 := fun n hn => by
        have := hall n hn
        omega
      have hnd : ns.Nodup := List.nodup_iff_pairwise_ne.mpr (hpw.imp fun h e => by omega)
      repeat' (first | with_reducible refine seqIf (fun σ' H3 => ∃ (la : Addr) (lk : List Int) (x7 : Option V), σ' = [some (.ref q), some (.int many), some (.ref gp), some (.ref ln), some (.int node), x5, some (.ref la), x7, none] ∧ PX q H H3 ∧ H3 la = some (.lst (lk.map V.int)) ∧ H la = none ∧ la ≠ ln ∧ H3 ln = some (.lst (ns.map V.int)) ∧ (lk = [] ∨ lk.map (fun l => (l.natAbs : Int)) = ns)) (fun Rk kk => ?_) ?_ | walk_at "w1")
      · rename_i la fla r5 H5 x5' r50 r51
        have nlaq : la ≠ q := fun e => by
          obtain ⟨o, h1, _⟩ := pl
          rw [← e, fla] at h1
          cases h1
        have flaH : H la = none := fresh_px px hp fla
        have nlal : la ≠ ln := fun e => by rw [e, el] at fla; cases fla
        have px5 := (px.new fla (o := .lst [])).trans x5'
        have ela := x5'.sx _ _ nlaq (upd_same : upd H2 la (.lst []) la = _)
        have el5 := x5'.sx _ _ nlq (upd_of fla el : upd H2 la (.lst []) ln = _)
        have no : ∀ x7, Rk [some (.ref q), some (.int many), some (.ref gp), some (.ref ln), some (.int node), x5, some (.ref la), x7, none] H5 := fun x7 => kk _ _ ⟨la, [], x7, rfl, px5, ela, flaH, nlal, el5, .inl rfl⟩
        refine' (fun (yes : (_ : Prop)) => _) _
        rotate_left
        · by_cases e5 : r5 = 0
          · rw [decide_eq_true e5, if_pos rfl]
            exact yes
          · rw [decide_eq_false e5, if_neg (by decide)]
            walk_at "w"
            by_cases e8 : 7 < many
            · rw [decide_eq_true (by omega)]
              exact yes
            · rw [decide_eq_false (by omega), if_neg (by decide)]
              walk_at "w"
              exact no _
        rw [if_pos rfl]
        have pl5 := px5.pl
        walk_at "w"
        intro D hD
        have hDH := fresh_px px5 hp hD
        have nDq : D ≠ q := fun e => by
          obtain ⟨o, h1, _⟩ := pl5
          rw [← e, hD] at h1
          cases h1
        have nDl : D ≠ ln := fun e => by rw [e, el5] at hD; cases hD
        refine lc_list (K := K) (xs := ns.map V.int) (fun i H' => PX q H H' ∧ H' ln = some (.lst (ns.map V.int)) ∧ ∃ lk : List Int, H' D = some (.lst (lk.map V.int)) ∧ lk.length = i ∧ lk.map (fun l => (l.natAbs : Int)) = ns.take i) ?_ ?_ ?_ ?_
        · exact ⟨px5.new hD, upd_of hD el5, [], upd_same, rfl, by simp⟩
        · rintro i H' _ ⟨_, e, _⟩
          exact .inl (.inl e)
        · rintro i x H' hx ⟨px', el', lk, eD, hlk, hlk2⟩
          rw [List.getElem?_map] at hx
          obtain ⟨n, hn, rfl⟩ := Option.map_eq_some_iff.mp hx
          have hnb' := hnb n (List.mem_of_getElem? hn)
          have hi := (List.getElem?_eq_some_iff.mp hn).1
          have pl' := px'.pl
          refine Z.w_gname rfl ⟨rfl, ?_⟩
          walk_at "w"
          rename_i r6 H6 x6 r60 r61
          have eD6 := x6.sx _ _ nDq eD
          have el6 := x6.sx _ _ nlq el'
          refine ⟨_, eD6, by rw [List.length_map]; exact Nat.lt_of_le_of_lt (show lk.length ≤ 1000 by omega) (by decide), (px'.trans x6).mutN hDH nDq, by rw [upd_ne nDl.symm]; exact el6, lk ++ [n - 2 * n * r6], by rw [upd_same, List.map_append]; rfl, by rw [List.length_append, hlk]; rfl, ?_⟩
          have ya : ((n - 2 * n * r6).natAbs : Int) = n := by
            rcases (show r6 = 0 ∨ r6 = 1 by omega) with rfl | rfl <;> omega
          rw [List.map_append, hlk2, List.take_add_one, hn]
          show _ ++ [((n - 2 * n * r6).natAbs : Int)] = _
          rw [ya]
          rfl
        · rintro H' ⟨px', el', lk, eD, hlk, hlk2⟩
          rw [List.length_map, List.take_length] at hlk2
          walk_at "w"
          exact kk _ _ ⟨D, lk, _, rfl, px', eD, hDH, nDl, el', .inr hlk2⟩
      rintro σ' H3 ⟨la, lk, x7, rfl, px3, ela, flaH, nlal, el3, hlk⟩
      walk_at "w"
      refine w_make ?_
      walk_at "w"
      intro lc flc
      walk_at "w"
      intro o dx fo fdx nxo
      have px4 := px3.new flc (o := .lst (ns.map V.int))
      have elc : upd H3 lc (.lst (ns.map V.int)) lc = some (.lst (ns.map V.int)) := upd_same
      have ela4 := (same_of (Same.refl H3) flc (o := .lst (ns.map V.int))) _ _ ela
      have el4 := (same_of (Same.refl H3) flc (o := .lst (ns.map V.int))) _ _ el3
      generalize upd H3 lc (.lst (ns.map V.int)) = H4 at px4 elc ela4 el4 fo fdx ⊢
      refine ⟨o, lc, dx, ns, H4, rfl, rfl, fo, fdx, nxo, .inl (.inl elc), by omega, fun t H5 s5 ft tk0 nx0 tr5 => ⟨rfl, ?_⟩⟩
      have ela5 := s5 _ _ ela4
      have el5 := s5 _ _ el4
      have px5 := px4.same s5
      walk_at "w"
      refine w_make ?_
      walk_at "w"
      intro o2 dx2 fo2 fdx2 nxo2
      refine ⟨o2, o, dx2, H5, rfl, rfl, fo2, fdx2, nxo2, fun R H6 s6 fR wl0 wa6 => ⟨rfl, ?_⟩⟩
      have ela6 := s6 _ _ ela5
      have el6 := s6 _ _ el5
      have px6 := px5.same s6
      walk_at "w"
      rename_i Ac fAc As fAs Af fAf Ar fAr Sa fSa
      have q1 := same_of (Same.refl H6) fAc (o := .lst [])
      have c1 : upd H6 Ac (.lst []) Ac = some (.lst []) := upd_same
      generalize upd H6 Ac (.lst []) = G1 at q1 c1 fAs fAf fAr fSa ⊢
      have q2 := same_of (Same.refl G1) fAs (o := .lst [])
      have c2 : upd G1 As (.lst []) As = some (.lst []) := upd_same
      generalize upd G1 As (.lst []) = G2 at q2 c2 fAf fAr fSa ⊢
      have q3 := same_of (Same.refl G2) fAf (o := .lst [])
      have c3 : upd G2 Af (.lst []) Af = some (.lst []) := upd_same
      generalize upd G2 Af (.lst []) = G3 at q3 c3 fAr fSa ⊢
      have q4 := same_of (Same.refl G3) fAr (o := .lst [])
      have c4 : upd G3 Ar (.lst []) Ar = some (.lst []) := upd_same
      generalize upd G3 Ar (.lst []) = G4 at q4 c4 fSa ⊢
      have q5 := same_of (Same.refl G4) fSa (o := .lst [.ref o, .ref o2, .ref ln, .ref Ac, .ref As, .ref Af, .ref Ar, .bl false, .ref la])
      have c5 : upd G4 Sa (.lst [.ref o, .ref o2, .ref ln, .ref Ac, .ref As, .ref Af, .ref Ar, .bl false, .ref la]) Sa = _ := upd_same
      generalize upd G4 Sa (.lst [.ref o, .ref o2, .ref ln, .ref Ac, .ref As, .ref Af, .ref Ar, .bl false, .ref la]) = G5 at q5 c5 ⊢
      have s67 : Same H6 G5 := q1.trans (q2.trans (q3.trans (q4.trans q5)))
      have px7 := px6.same s67
      have pG1 := px6.same q1
      have pG2 := pG1.same q2
      have pG3 := pG2.same q3
      have pG4 := pG3.same q4
      -- the trail is all there at H5
      have trs : ∀ b ∈ t.dn :: [o, t.ll, t.lv, t.lr, t.dp, t.ls, t.lt], ∃ u, H5 b = some u := fun b hb => by
        rcases List.mem_cons.mp hb with rfl | hb
        · obtain ⟨kn, hk, _⟩ := tr5.nd
          exact ⟨_, hk⟩
        · obtain ⟨u, e, _⟩ := tr5.mu b hb
          exact ⟨u, e⟩
      have was : ∀ b ∈ wmut o2 R, ∃ u, H6 b = some u := fun b hb => by
        obtain ⟨u, e, _⟩ := wa6.mu b hb
        exact ⟨u, e⟩
      have trn : ∀ b ∈ t.dn :: [o, t.ll, t.lv, t.lr, t.dp, t.ls, t.lt], H4 b = none := fun b hb => by
        simp only [List.mem_cons, List.not_mem_nil, or_false] at hb
        rcases hb with rfl | rfl | rfl | rfl | rfl | rfl | rfl | rfl
        · exact ft _ (by simp)
        · exact fo
        · exact ft _ (by simp)
        · exact ft _ (by simp)
        · exact ft _ (by simp)
        · exact ft _ (by simp)
        · exact ft _ (by simp)
        · exact ft _ (by simp)
      have hmut : ∀ b ∈ [o, t.ll, t.lv, t.lr, t.dp, t.ls, t.lt] ++ wmut o2 R, H4 b = none := fun b hb => by
        rcases List.mem_append.mp hb with hb | hb
        · exact trn b (List.mem_cons_of_mem _ hb)
        · have := fR b hb
          cases e : H4 b with
          | none => rfl
          | some u =>
            rw [s5 _ _ e] at this
            cases this
      have hmu6 : ∀ b ∈ [o, t.ll, t.lv, t.lr, t.dp, t.ls, t.lt] ++ wmut o2 R, ∃ u, H6 b = some u := fun b hb => by
        rcases List.mem_append.mp hb with hb | hb
        · obtain ⟨u, e⟩ := trs b (List.mem_cons_of_mem _ hb)
          exact ⟨u, s6 _ _ e⟩
        · exact was b hb
      have n6 : ∀ {b : Addr} {G : Hp}, Same H6 G → G b = none → b ∉ [o, t.ll, t.lv, t.lr, t.dp, t.ls, t.lt] ++ wmut o2 R := fun {b G} sg e m => by
        obtain ⟨u, e2⟩ := hmu6 b m
        rw [sg _ _ e2] at e
        cases e
      have so7 : SOk K T.C_Trail T.C_Watching Tt G5 ⟨⟨o, o2, t, R, ns, [], ⟨[], [], [], [], [], 0, fun _ => []⟩⟩, Sa, ln, Ac, As, Af, Ar, la, [], [], [], [], [], [], lk, false⟩ := by
        have tr7 := tr5.at' fun b u _ e => (s6.trans s67) _ _ e
        refine ⟨⟨tr7, wa6.at' (fun b u _ e => s67 _ _ e) (fun a xs e => Evl.ex_t s67 e), fun b hb hb2 => ?_⟩, ?_, c5, ?_, ?_, (fun c hc => by cases hc), ?_, ?_, ?_, RowsH.nil, ?_, ?_, ?_⟩
        · obtain ⟨u, e⟩ := trs b hb
          rw [fR b hb2] at e
          cases e
        · obtain ⟨xq, eq⟩ := pool_lst hp
          exact tabs_lst tb eq px7.sx
        · exact s67 _ _ el6
        · exact q5 _ _ (q4 _ _ (q3 _ _ (q2 _ _ c1)))
        · exact q5 _ _ (q4 _ _ (q3 _ _ c2))
        · exact q5 _ _ (q4 _ _ c3)
        · exact q5 _ _ c4
        · exact s67 _ _ ela6
        · intro b hb
          simp only [SS.seven, List.mem_cons, List.not_mem_nil, or_false] at hb
          rcases hb with rfl | rfl | rfl | rfl | rfl | rfl | rfl
          · exact n6 (q1.trans (q2.trans (q3.trans q4))) fSa
          · exact fun m => by rw [hmut _ m] at el4; cases el4
          · exact n6 (Same.refl _) fAc
          · exact n6 q1 fAs
          · exact n6 (q1.trans q2) fAf
          · exact n6 (q1.trans (q2.trans q3)) fAr
          · exact fun m => by rw [hmut _ m] at ela4; cases ela4
        · have a1 := ne_of_none el6 fAc
          have a2 := ne_of_none ela6 fAc
          have b0 := ne_of_none c1 fAs
          have b1 := ne_of_none (q1 _ _ el6) fAs
          have b2 := ne_of_none (q1 _ _ ela6) fAs
          have d0 := ne_of_none (q2 _ _ c1) fAf
          have d1 := ne_of_none c2 fAf
          have d2 := ne_of_none (q2 _ _ (q1 _ _ el6)) fAf
          have d3 := ne_of_none (q2 _ _ (q1 _ _ ela6)) fAf
          have e0 := ne_of_none (q3 _ _ (q2 _ _ c1)) fAr
          have e1 := ne_of_none (q3 _ _ c2) fAr
          have e2 := ne_of_none c3 fAr
          have e3 := ne_of_none (q3 _ _ (q2 _ _ (q1 _ _ el6))) fAr
          have e4 := ne_of_none (q3 _ _ (q2 _ _ (q1 _ _ ela6))) fAr
          have f0 := ne_of_none (q4 _ _ (q3 _ _ (q2 _ _ c1))) fSa
          have f1 := ne_of_none (q4 _ _ (q3 _ _ c2)) fSa
          have f2 := ne_of_none (q4 _ _ c3) fSa
          have f3 := ne_of_none c4 fSa
          have f4 := ne_of_none (q4 _ _ (q3 _ _ (q2 _ _ (q1 _ _ el6)))) fSa
          have f5 := ne_of_none (q4 _ _ (q3 _ _ (q2 _ _ (q1 _ _ ela6)))) fSa
          simp only [SS.seven, List.nodup_cons, List.mem_cons, List.not_mem_nil, or_false, not_or, not_false_eq_true, List.nodup_nil, and_true]
          exact ⟨⟨f4.symm, f0.symm, f1.symm, f2.symm, f3.symm, f5.symm⟩, ⟨a1, b1, d2, e3, nlal.symm⟩, ⟨b0, d0, e0, a2.symm⟩, ⟨d1, e1, b2.symm⟩, ⟨e2, d3.symm⟩, e4.symm⟩
      refine h _ G5 px7 (fun b hb => ?_) so7 ?_
      · rcases List.mem_cons.mp hb with rfl | hb
        · exact fresh_px px4 hp (trn _ List.mem_cons_self)
        rcases List.mem_append.mp hb with hb | hb
        · simp only [SS.seven, List.mem_cons, List.not_mem_nil, or_false] at hb
          rcases hb with rfl | rfl | rfl | rfl | rfl | rfl | rfl
          · exact fresh_px pG4 hp fSa
          · exact flnH
          · exact fresh_px px6 hp fAc
          · exact fresh_px pG1 hp fAs
          · exact fresh_px pG2 hp fAf
          · exact fresh_px pG3 hp fAr
          · exact flaH
        · exact fresh_px px4 hp (hmut b hb)
      · refine ⟨⟨0, ?_, fun e => by cases e⟩, rfl, ⟨Nat.le_refl _, rfl, rfl⟩, rfl, rfl, (fun i l n e => by simp at e), rfl, ⟨Nat.le_refl _, Nat.le_refl _, by decide⟩, hlk⟩
        have eD : dep ([] : List TRow) = 0 := rfl
        refine ⟨?_, Nat.zero_le _, ⟨Nat.zero_le _, List.nodup_nil, (fun i p e => absurd (show ([] : List (Int × Nat))[i]? = some p from e) (by simp)), (fun i p _ e => absurd (show ([] : List (Int × Nat))[i]? = some p from e) (by simp))⟩, (fun l hl => by cases hl), (fun c hc => by cases hc), hnb, ⟨by show ns.length ≤ 50; omega, hnd⟩, ⟨rfl, (fun n c w e => by simp at e), fun l n _ => ⟨fun hw => ?_, fun _ => rfl⟩⟩, (fun l => ⟨List.nodup_nil, fun n hn => by cases hn⟩), (fun n hn => by cases hn), rfl, Nat.zero_le _, Nat.le_refl _, Nat.zero_le _, fun p hp => ?_⟩
        · show t.tk.countP _ = 0
          rw [tk0]
          rfl
        · obtain ⟨c, w, hw, _⟩ := hw
          exact absurd (show ([] : List (List Int))[_]? = some c from hw) (by simp)
        · have hp : p ∈ R.wl := hp
          rw [wl0] at hp
          cases hp
end
end L

namespace L
open PySem PySem.Spec PyProof.Rows L2 Z M MR MT X2
open _root_.SX (S S_len S_cat S_inj)
section
variable {K : PySem.W.Frag} {CT CW : Addr} {T : Tb} {H H' : Hp} {q1 p a Lb Sa Sb : Addr} {xs : List V} {y y' z z' : SS} {m n : Nat}
/-- the script stays, outside of S -/
def Scr (K : PySem.W.Frag) (H : Hp) (a : Addr) (xs : List V) (S : List Addr) : Prop := ((H a = some (.lst xs) ∨ ∃ o, H a = some (.frz o (.lst xs))) ∧ a ∉ S) ∨ ∀ H', SqL K H' a xs
theorem Scr.sq {S : List Addr} (h : Scr K H a xs S) : SqL K H a xs := by
  rcases h with ⟨h | ⟨o, h⟩, _⟩ | h
  · exact .inl (.inl h)
  · exact .inl (.inr ⟨o, h⟩)
  · exact h H
theorem Scr.mk {S : List Addr} (h : SqL K H a xs) (n : ∀ b ∈ S, H b = none) : Scr K H a xs S := by
  rcases h with (h | ⟨o, h⟩) | h
  · exact .inl ⟨.inl h, fun m => by rw [n a m] at h; cases h⟩
  · exact .inl ⟨.inr ⟨o, h⟩, fun m => by rw [n a m] at h; cases h⟩
  · exact .inr fun H' => .inr h
theorem DX.out {S S' : List Addr} (d : DX T S S' H H') {b : Addr} {x : HO} (e : H b = some x) (nt : ∀ ps, x ≠ .tbl ps) (n : b ∉ S) : H' b = some x ∧ b ∉ S' := by
  refine ⟨d.kp b x n nt e, fun m => ?_⟩
  rcases d.nw b m with c | c
  · exact n c
  · obtain ⟨ps, hps⟩ := c x e
    exact nt ps hps
theorem Scr.dx {S S' : List Addr} (h : Scr K H a xs S) (d : DX T S S' H H') : Scr K H' a xs S' := by
  rcases h with ⟨h | ⟨o, h⟩, n⟩ | h
  · obtain ⟨e1, e2⟩ := d.out h (fun ps z => by cases z) n
    exact .inl ⟨.inl e1, e2⟩
  · obtain ⟨e1, e2⟩ := d.out h (fun ps z => by cases z) n
    exact .inl ⟨.inr ⟨o, e1⟩, e2⟩
  · exact .inr h
theorem Scr.same {S : List Addr} (h : Scr K H a xs S) (s : Same H H') : Scr K H' a xs S := by
  rcases h with ⟨h | ⟨o, h⟩, n⟩ | h
  · exact .inl ⟨.inl (s _ _ h), n⟩
  · exact .inl ⟨.inr ⟨o, s _ _ h⟩, n⟩
  · exact .inr h
theorem Scr.sub {S S' : List Addr} (h : Scr K H a xs S) (s : ∀ b ∈ S', b ∈ S) : Scr K H a xs S' := h.imp (fun q => ⟨q.1, fun m => q.2 (s _ m)⟩) id
theorem Scr.fresh {S : List Addr} (h : Scr K H a xs S) (f : H p = none) : Scr K H a xs (p :: S) := by
  rcases h with ⟨h, n⟩ | h
  · refine .inl ⟨h, fun m => ?_⟩
    rcases List.mem_cons.mp m with e | m
    · rw [e, f] at h
      rcases h with h | ⟨o, h⟩ <;> cases h
    · exact n m
  · exact .inr h
theorem SOk.allMu {q : Addr} (so : SOk K CT CW T H z) (hp : PoolAt H q) : AllMu (q :: z.all) H := fun b hb => by
  rcases List.mem_cons.mp hb with rfl | hb
  · obtain ⟨xs, e⟩ := pool_lst hp
    exact ⟨_, e, trivial⟩
  · rcases List.mem_append.mp hb with hb | hb
    · obtain ⟨xs, e⟩ := so.lst b hb
      exact ⟨_, e, trivial⟩
    · exact so.ok.mu b hb
theorem SOk.dnv (so : SOk K CT CW T H z) : ∃ kn, H z.x.t.dn = some (.dK kn) := by
  obtain ⟨kn, e, _⟩ := so.ok.ta.nd
  exact ⟨kn, e⟩
theorem SOk.val (so : SOk K CT CW T H z) {b : Addr} (hb : b ∈ z.x.t.dn :: z.all) : ∃ x, H b = some x ∧ ∀ ps, x ≠ .tbl ps := by
  rcases List.mem_cons.mp hb with rfl | hb
  · obtain ⟨kn, e⟩ := so.dnv
    exact ⟨_, e, fun _ c => by cases c⟩
  · rcases List.mem_append.mp hb with hb | hb
    · obtain ⟨xs, e⟩ := so.lst b hb
      exact ⟨_, e, fun _ c => by cases c⟩
    · obtain ⟨u, e, mu⟩ := so.ok.mu b hb
      exact ⟨u, e, fun ps c => by rw [c] at mu; exact mu⟩
/-- a list that isn't the seat's was written -/
theorem SOk.off (h : SOk K CT CW T H z) (e : H a = some (.lst xs)) (hq : a ∉ z.all) (fr : ∀ b u, b ≠ a → H b = some u → H' b = some u) : SOk K CT CW T H' z := by
  have n : ∀ b ∈ z.seven, b ≠ a := fun b hb c => hq (by rw [← c]; exact List.mem_append_left _ hb)
  have s := fun b (hb : b ∈ z.seven) u eb => fr b u (n b hb) eb
  exact ⟨h.ok.lst e (fun c => hq (List.mem_append_right _ c)) fr, tabs_lst h.tab e fr, s _ (by simp [SS.seven]) _ h.sa, s _ (by simp [SS.seven]) _ h.an, s _ (by simp [SS.seven]) _ h.ac, fun c hc => sqT_lst e fr (h.ct c hc), s _ (by simp [SS.seven]) _ h.as, s _ (by simp [SS.seven]) _ h.af, s _ (by simp [SS.seven]) _ h.ar, rows_lst e fr h.rv, s _ (by simp [SS.seven]) _ h.al, h.sep, h.nd⟩
/-- a seat that another's deed leaves alone -/
theorem SOk.dxo (h : SOk K CT CW T H z) {S S' : List Addr} (d : DX T S S' H H') (mu : AllMu S H) (n : ∀ b ∈ z.x.t.dn :: z.all, b ∉ S) : SOk K CT CW T H' z := by
  have g : ∀ b x, b ∈ z.x.t.dn :: z.all → H b = some x → H' b = some x := fun b x hb e => by
    obtain ⟨x2, e2, nt⟩ := h.val hb
    rw [e] at e2
    obtain rfl := Option.some.inj e2
    exact d.kp b x (n b hb) nt e
  have s := fun b (hb : b ∈ z.seven) u eb => g b u (List.mem_cons_of_mem _ (List.mem_append_left _ hb)) eb
  refine ⟨⟨h.ok.ta.at' fun b x hb e => g b x ?_ e, h.ok.wa.at' (fun b x hb e => g b x (List.mem_cons_of_mem _ (List.mem_append_right _ (List.mem_append_right _ hb))) e) fun c ys q => sqT_dx d mu q, h.ok.sep⟩, d.tb h.tab, s _ (by simp [SS.seven]) _ h.sa, s _ (by simp [SS.seven]) _ h.an, s _ (by simp [SS.seven]) _ h.ac, fun c hc => sqT_dx d mu (h.ct c hc), s _ (by simp [SS.seven]) _ h.as, s _ (by simp [SS.seven]) _ h.af, s _ (by simp [SS.seven]) _ h.ar, h.rv.tup fun b ys eb => d.kp _ _ (fun m => ?_) (by simp) eb, s _ (by simp [SS.seven]) _ h.al, h.sep, h.nd⟩
  · rcases List.mem_cons.mp hb with rfl | hb
    · exact List.mem_cons_self
    · exact List.mem_cons_of_mem _ (List.mem_append_right _ (List.mem_append_left _ hb))
  · obtain ⟨u, eu, mu2⟩ := mu b m
    rw [eb] at eu
    rw [← Option.some.inj eu] at mu2
    exact mu2
/-- apart -/
def Apart (y z : SS) : Prop := (∀ b ∈ y.x.t.dn :: y.all, b ∉ z.all) ∧ ∀ b ∈ z.x.t.dn :: z.all, b ∉ y.all
/-- the law between deeds: y the seat at hand, z the other; q1 the first pool, p the pool at hand -/
structure LP (K : PySem.W.Frag) (CT CW : Addr) (T : Tb) (H : Hp) (q1 p a : Addr) (xs : List V) (Lb Sa Sb : Addr) (y z : SS) (m : Nat) : Prop where
  so : SOk K CT CW T H y
  si : SInv y m
  so2 : SOk K CT CW T H z
  si2 : SInv z m
  ap : Apart y z
  pl : PoolAt H p
  qn : p ∉ y.all
  qn2 : p ∉ z.all
  p1 : PoolAt H q1
  n1 : q1 ∉ y.all
  n2 : q1 ∉ z.all
  sc : Scr K H a xs (q1 :: (z.all ++ (p :: y.all)))
  sb : Scr K H Lb [.ref Sa, .ref Sb] (q1 :: (z.all ++ (p :: y.all)))
  sa : (y.Sa = Sa ∧ z.Sa = Sb) ∨ (y.Sa = Sb ∧ z.Sa = Sa)
theorem LP.swap (h : LP K CT CW T H q1 p a xs Lb Sa Sb y z m) : LP K CT CW T H q1 p a xs Lb Sa Sb z y m := by
  have sb : ∀ b ∈ q1 :: (y.all ++ (p :: z.all)), b ∈ q1 :: (z.all ++ (p :: y.all)) := fun b hb => by
    simp only [List.mem_cons, List.mem_append] at hb ⊢
    rcases hb with hb | hb | hb | hb
    · exact .inl hb
    · exact .inr (.inr (.inr hb))
    · exact .inr (.inr (.inl hb))
    · exact .inr (.inl hb)
  exact ⟨h.so2, h.si2, h.so, h.si, ⟨h.ap.2, h.ap.1⟩, h.pl, h.qn2, h.qn, h.p1, h.n2, h.n1, h.sc.sub sb, h.sb.sub sb, h.sa.symm.imp (fun q => ⟨q.2, q.1⟩) fun q => ⟨q.2, q.1⟩⟩
theorem LP.pick (h : LP K CT CW T H q1 p a xs Lb Sa Sb y z m) {A : Addr} (hA : A = Sa ∨ A = Sb) : ∃ y z, LP K CT CW T H q1 p a xs Lb Sa Sb y z m ∧ y.Sa = A := by
  rcases h.sa with ⟨e1, e2⟩ | ⟨e1, e2⟩ <;> rcases hA with rfl | rfl
  · exact ⟨y, z, h, e1⟩
  · exact ⟨z, y, h.swap, e2⟩
  · exact ⟨z, y, h.swap, e2⟩
  · exact ⟨y, z, h, e1⟩
theorem LP.dx (h : LP K CT CW T H q1 p a xs Lb Sa Sb y z m) (g : Gq K CT CW T p H H' y y') (dn : y'.x.t.dn = y.x.t.dn) (si : SInv y' n) (hm : m ≤ n) (hn : n ≤ 900) : LP K CT CW T H' q1 p a xs Lb Sa Sb y' z n := by
  have zn : ∀ b ∈ z.x.t.dn :: z.all, b ∉ p :: y.all := fun b hb m => by
    rcases List.mem_cons.mp m with rfl | m
    · rcases List.mem_cons.mp hb with e | hb
      · obtain ⟨kn, e1⟩ := h.so2.dnv
        obtain ⟨xs, e2⟩ := pool_lst h.pl
        rw [e, e1] at e2
        cases e2
      · exact h.qn2 hb
    · exact h.ap.2 b hb m
  have zo : ∀ b ∈ z.x.t.dn :: z.all, b ∉ p :: y'.all := fun b hb => by
    obtain ⟨x, e, nt⟩ := h.so2.val hb
    exact (g.dx.out e nt (zn b hb)).2
  have q : PoolAt H' q1 ∧ q1 ∉ y'.all := by
    by_cases e : q1 = p
    · rw [e]
      exact ⟨g.pl, g.qn⟩
    · obtain ⟨o, ho, hp⟩ := h.p1
      have nt : ∀ ps, o ≠ .tbl ps := fun ps c => by
        obtain ⟨c0, k, b, s, rfl⟩ := hp
        cases c
      obtain ⟨e1, e2⟩ := g.dx.out ho nt fun m => by
        rcases List.mem_cons.mp m with m | m
        · exact e m
        · exact h.n1 m
      exact ⟨⟨o, e1, hp⟩, fun m => e2 (List.mem_cons_of_mem _ m)⟩
  have dd : DX T (q1 :: (z.all ++ (p :: y.all))) (q1 :: (z.all ++ (p :: y'.all))) H H' := (g.dx.pre z.all).cons q1
  refine ⟨g.so, si, h.so2.dxo g.dx (h.so.allMu h.pl) zn, h.si2.up hm hn, ⟨fun b hb m => ?_, fun b hb m => zo b hb (List.mem_cons_of_mem _ m)⟩, g.pl, g.qn, h.qn2, q.1, q.2, h.n2, h.sc.dx dd, h.sb.dx dd, ?_⟩
  · rcases List.mem_cons.mp hb with e | hb
    · exact h.ap.1 b (by rw [e, dn]; exact List.mem_cons_self) m
    · exact zo b (List.mem_cons_of_mem _ m) (List.mem_cons_of_mem _ hb)
  · rw [g.sa]
    exact h.sa
theorem LP.step (h : LP K CT CW T H q1 p a xs Lb Sa Sb y z m) (st : StepQ K CT CW T p H H' y y' n) (hm : m ≤ n) (hn : n ≤ 900) : LP K CT CW T H' q1 p a xs Lb Sa Sb y' z n := h.dx st.gq st.dn st.si hm hn
theorem LP.go (h : LP K CT CW T H q1 p a xs Lb Sa Sb y z m) (st : Step K CT CW T H H' y y' n) (hm : m ≤ n) (hn : n ≤ 900) : LP K CT CW T H' q1 p a xs Lb Sa Sb y' z n := h.dx ((Gq.refl h.so h.pl h.qn).go st.go) st.dn st.si hm hn
theorem LP.same (h : LP K CT CW T H q1 p a xs Lb Sa Sb y z m) (s : Same H H') : LP K CT CW T H' q1 p a xs Lb Sa Sb y z m := h.dx ((Gq.refl h.so h.pl h.qn).same s) rfl h.si (Nat.le_refl _) h.si.cap.2.2
theorem LP.px (h : LP K CT CW T H q1 p a xs Lb Sa Sb y z m) (s : PX p H H') : LP K CT CW T H' q1 p a xs Lb Sa Sb y z m := h.dx ((Gq.refl h.so h.pl h.qn).px s) rfl h.si (Nat.le_refl _) h.si.cap.2.2
theorem LP.up (h : LP K CT CW T H q1 p a xs Lb Sa Sb y z m) (hm : m ≤ n) (hn : n ≤ 900) : LP K CT CW T H q1 p a xs Lb Sa Sb y z n := ⟨h.so, h.si.up hm hn, h.so2, h.si2.up hm hn, h.ap, h.pl, h.qn, h.qn2, h.p1, h.n1, h.n2, h.sc, h.sb, h.sa⟩
theorem LP.new (h : LP K CT CW T H q1 q1 a xs Lb Sa Sb y z m) {r : Addr} {o : HO} (f : H r = none) (ho : IsPool o) : LP K CT CW T (upd H r o) q1 r a xs Lb Sa Sb y z m := by
  have s := same_of (Same.refl H) f (o := o)
  have h' := h.same s
  have sb : ∀ b ∈ q1 :: (z.all ++ (r :: y.all)), b ∈ r :: q1 :: (z.all ++ (q1 :: y.all)) := fun b hb => by
    simp only [List.mem_cons, List.mem_append] at hb ⊢
    rcases hb with hb | hb | hb | hb
    · exact .inr (.inl hb)
    · exact .inr (.inr (.inl hb))
    · exact .inl hb
    · exact .inr (.inr (.inr (.inr hb)))
  exact ⟨h'.so, h'.si, h'.so2, h'.si2, h.ap, ⟨o, upd_same, ho⟩, h.so.fresh f, h.so2.fresh f, h'.p1, h'.n1, h'.n2, ((h.sc.fresh f).same s).sub sb, ((h.sb.fresh f).same s).sub sb, h'.sa⟩
theorem LP.back (h : LP K CT CW T H q1 p a xs Lb Sa Sb y z m) : LP K CT CW T H q1 q1 a xs Lb Sa Sb y z m := by
  have sb : ∀ b ∈ q1 :: (z.all ++ (q1 :: y.all)), b ∈ q1 :: (z.all ++ (p :: y.all)) := fun b hb => by
    simp only [List.mem_cons, List.mem_append] at hb ⊢
    rcases hb with hb | hb | hb | hb
    · exact .inl hb
    · exact .inr (.inl hb)
    · exact .inl hb
    · exact .inr (.inr (.inr hb))
  exact ⟨h.so, h.si, h.so2, h.si2, h.ap, h.p1, h.n1, h.n2, h.p1, h.n1, h.n2, h.sc.sub sb, h.sb.sub sb, h.sa⟩
end
end L

namespace L
open PySem PySem.Spec PyProof.Rows L2 Z M MR MT X2
open _root_.SX (S S_len S_cat S_inj)
section
variable {P : Program} {w : World} {K : PySem.W.Frag} {mg : Str → Option Value} {base : Heap}
def spLaw (K : PySem.W.Frag) (Pt : Addr) : Sp := fun vs H Q _ => ∃ (a : Addr) (ns : List Int), vs = [.ref a] ∧ SqL K H a (ns.map V.int) ∧ ns.length ≤ 63 ∧ H Pt = some (.tbl #[]) ∧ ∀ H', Q (.bl true) H'
theorem ok_law (T : Txt K mg) (TB : LamX.TabB base mg T.c_bw T.P_bw) : FnOk P w K mg base CX0 14 T.f_law T.fd_law ["_law_script"] (spLaw K T.P_bw) := by
  have G_pool := ok_pool (P := P) (w := w) (base := base) T
  have G_take := ok_take (P := P) (w := w) (base := base) T
  have G_seat := ok_Lseat (P := P) (w := w) (base := base) T (Tt := T0 T)
  have G_lot := ok_Llot (P := P) (w := w) (base := base) T TB
  have G_propagates := ok_Lprop (P := P) (w := w) (base := base) T (Tt := T0 T)
  have G_depth := ok_Ldepth (P := P) (w := w) (base := base) T (Tt := T0 T)
  have G_back := ok_Lback (P := P) (w := w) (base := base) T (Tt := T0 T)
  have G_deed := ok_Ldeed (P := P) (w := w) (base := base) T TB
  have G_kept := ok_Lkept (P := P) (w := w) (base := base) T (Tt := T0 T)
  refine T.F_law.ok sc_law (fun vs H Q E h => ?_) (fun cdv A outer s H vs Q E hr h => ?_)
  · obtain ⟨a, ns, rfl, _⟩ := h
    rfl
  · obtain ⟨a, ns, rfl, hS, hn63, hPt, h⟩ := h
    have hn : ns.length ≤ 1000 := by omega
    have hnl : (ns.map V.int).length = ns.length := List.length_map _
    refine ⟨_, (pss_cons (ps_set (i := 1) sc_law.nd rfl (.inr rfl) (pe_call G_pool (hr.mono (by first | decide | omega)) (by rfl) T.g_pool T.F_pool.kp T.b_pool .nil pass0 (pa_cons (pv 0) (pa_cons pe_int pa_nil))))
 (pss_cons (ps_setLc (i := 2) (own := [("_law_turn", 3)]) (g := gName 3) (tt := tYes) (by rfl) sc_law.nd rfl rfl (sw_true rfl rfl rfl (by decide +kernel)) (pi_range1 (by rfl) T.m_range (pa_cons pe_int pa_nil)) (blkOk_by (own := [("_law_turn", 3)]) (N := N_law) (sc := defScope s_law) (by decide +kernel)) (fun _ _ _ _ _ => pg_name (i := 3) sc_law.nd rfl (Or.inl rfl)) (fun _ _ _ _ _ => pts_nil) (fun _ _ _ _ _ => (pe_call G_seat (hr.mono (by first | decide | omega)) (by rfl) T.g_seat T.F_seat.kp T.b_seat .nil pass0 (pa_cons (pv 1) pa_nil))))
 (pss_cons (ps_for PassesOwn.never rfl (pi_list (pv 2)) (pg_name (i := 4) sc_law.nd rfl (.inl rfl)) (pss_cons (ps_set (i := 5) sc_law.nd rfl (.inl rfl) (pe_callB (call_min2 rfl) (by rfl) T.m_min (by decide +kernel) (pa_cons (pe_call G_take (hr.mono (by first | decide | omega)) (by rfl) T.g_take T.F_take.kp T.b_take .nil pass0 (pa_cons (pv 1) (pa_cons pe_int pa_nil))) (pa_cons (pe_op op_add pe_int (pe_op op_mul pe_int (pe_callB call_len_seq (by rfl) T.m_len (by decide +kernel) (pa_cons (pv 0) pa_nil)))) pa_nil))))
 (pss_cons (ps_if (pt_cmpR op_gt (pe_callB call_len_seq (by rfl) T.m_len (by decide +kernel) (pa_cons (pe_ix ix_list (pv 4) pe_int (fun _ _ => rfl)) pa_nil)) pe_int (nomark _)) (pss_one (ps_set (i := 5) sc_law.nd rfl (.inl rfl) (pe_op op_add (pv 5) pe_int))) pss_nil)
 (pss_one (ps_if (PW.pt (pw_or (pt_not (pt_val (pe_call G_lot (hr.mono (by first | decide | omega)) (by rfl) T.g_lot T.F_lot.kp T.b_lot .nil pass0 (pa_cons (pv 1) (pa_cons (pv 4) (pa_cons (pv 5) pa_nil)))))) (pw_or1 (pt_not (pt_val (pe_call G_propagates (hr.mono (by first | decide | omega)) (by rfl) T.g_propagates T.F_propagates.kp T.b_propagates .nil pass0 (pa_cons (pv 4) pa_nil))))))) (pss_one (ps_ret pe_bl)) pss_nil)))))
 (pss_cons (ps_for PassesOwn.never rfl (pi_range1 (by rfl) T.m_range (pa_cons (pe_callB (call_min2 rfl) (by rfl) T.m_min (by decide +kernel) (pa_cons (pe_op op_add pe_int (pe_call G_take (hr.mono (by first | decide | omega)) (by rfl) T.g_take T.F_take.kp T.b_take .nil pass0 (pa_cons (pv 1) (pa_cons pe_int pa_nil)))) (pa_cons (pe_op op_add pe_int (pe_op op_mul pe_int (pe_callB call_len_seq (by rfl) T.m_len (by decide +kernel) (pa_cons (pv 0) pa_nil)))) pa_nil))) pa_nil)) (pg_name (i := 6) sc_law.nd rfl (.inl rfl)) (pss_cons (ps_set (i := 7) sc_law.nd rfl (.inl rfl) (pv 1))
 (pss_cons (ps_if (pt_cmpR op_lt (pe_op op_add (pv 6) pe_int) (pe_callB call_len_seq (by rfl) T.m_len (by decide +kernel) (pa_cons (pv 0) pa_nil)) (nomark _)) (pss_one (ps_set (i := 7) sc_law.nd rfl (.inl rfl) (pe_call G_pool (hr.mono (by first | decide | omega)) (by rfl) T.g_pool T.F_pool.kp T.b_pool .nil pass0 (pa_cons (pv 0) (pa_cons (pe_op op_add (pv 6) pe_int) pa_nil))))) pss_nil)
 (pss_cons (ps_set (i := 4) sc_law.nd rfl (.inl rfl) (pe_ix ix_list (pv 2) (pe_callTy call_int1 (by rfl) T.m_int (by decide +kernel) (pa_cons (pe_cmpR op_eq (pe_call G_take (hr.mono (by first | decide | omega)) (by rfl) T.g_take T.F_take.kp T.b_take .nil pass0 (pa_cons (pv 7) (pa_cons pe_int pa_nil))) pe_int (nomark _)) pa_nil)) (fun _ _ => rfl)))
 (pss_cons (ps_if (PW.pt (pw_and (pt_cmpR op_gt (pe_call G_depth (hr.mono (by first | decide | omega)) (by rfl) T.g_depth T.F_depth.kp T.b_depth .nil pass0 (pa_cons (pv 4) pa_nil)) pe_int (nomark _)) (pw_and (pt_not (pt_val (pe_ix ix_list (pv 4) pe_int (fun _ _ => rfl)))) (pw_and1 (pt_not (pt_val (pe_call G_back (hr.mono (by first | decide | omega)) (by rfl) T.g_back T.F_back.kp T.b_back .nil pass0 (pa_cons (pv 4) (pa_cons (pe_call G_take (hr.mono (by first | decide | omega)) (by rfl) T.g_take T.F_take.kp T.b_take .nil pass0 (pa_cons (pv 7) (pa_cons (pe_call G_depth (hr.mono (by first | decide | omega)) (by rfl) T.g_depth T.F_depth.kp T.b_depth .nil pass0 (pa_cons (pv 4) pa_nil)) pa_nil))) pa_nil))))))))) (pss_one (ps_ret pe_bl)) pss_nil)
 (pss_cons (ps_if (PW.pt (pw_or (pt_not (pt_val (pe_call G_deed (hr.mono (by first | decide | omega)) (by rfl) T.g_deed T.F_deed.kp T.b_deed .nil pass0 (pa_cons (pv 7) (pa_cons (pv 4) pa_nil))))) (pw_or1 (pt_not (pt_val (pe_call G_propagates (hr.mono (by first | decide | omega)) (by rfl) T.g_propagates T.F_propagates.kp T.b_propagates .nil pass0 (pa_cons (pv 4) pa_nil))))))) (pss_one (ps_ret pe_bl)) pss_nil)
 (pss_one (ps_if (PW.pt (pw_and (pt_cmpR op_eq (pe_call G_take (hr.mono (by first | decide | omega)) (by rfl) T.g_take T.F_take.kp T.b_take .nil pass0 (pa_cons (pv 7) (pa_cons pe_int pa_nil))) pe_int (nomark _)) (pw_and (PW.pt (pw_or (pt_val (pe_ix ix_list (pv 4) pe_int (fun _ _ => rfl))) (pw_or1 (pt_cmpR op_eq (pe_call G_depth (hr.mono (by first | decide | omega)) (by rfl) T.g_depth T.F_depth.kp T.b_depth .nil pass0 (pa_cons (pv 4) pa_nil)) pe_int (nomark _))))) (pw_and1 (pt_not (pt_val (pe_call G_propagates (hr.mono (by first | decide | omega)) (by rfl) T.g_propagates T.F_propagates.kp T.b_propagates .nil pass0 (pa_cons (pv 4) pa_nil)))))))) (pss_one (ps_ret pe_bl)) pss_nil))))))))
 (pss_one (ps_ret (pe_and (pe_call G_kept (hr.mono (by first | decide | omega)) (by rfl) T.g_kept T.F_kept.kp T.b_kept .nil pass0 (pa_cons (pe_ix ix_list (pv 2) pe_int (fun _ _ => rfl)) pa_nil)) (pe_one (pe_call G_kept (hr.mono (by first | decide | omega)) (by rfl) T.g_kept T.F_kept.kp T.b_kept .nil pass0 (pa_cons (pe_ix ix_list (pv 2) pe_int (fun _ _ => rfl)) pa_nil)))))))))), ?_⟩
    refine Z.w_start (σ' := [some (.ref a), none, none, none, none, none, none, none]) rfl ?_
    walk_at "w"
    refine ⟨a, ns, 0, rfl, hS, hn, by decide, by decide, fun q o fq hpo => ?_⟩
    have p0 : PoolAt (upd H q o) q := ⟨o, upd_same, hpo⟩
    have sq := same_of (Same.refl H) fq (o := o)
    have tb : LamX.Tabs (T0 T) (upd H q o) := fun p hp => by
      rw [List.mem_singleton.mp hp]
      exact (LamX.TabS.nil hPt).ext sq
    obtain ⟨xq, eq⟩ := pool_lst p0
    walk_at "w"
    refine ⟨by decide, by decide, ?_⟩
    intro D hD
    have nDq : D ≠ q := fun e => by
      rw [e, eq] at hD
      cases hD
    refine lc_range (fun i H' => ∃ zs : List SS, zs.length = i ∧ PX q (upd H q o) H' ∧ H' D = some (.lst (zs.map fun z => V.ref z.Sa)) ∧ (∀ z ∈ zs, SOk K T.C_Trail T.C_Watching (T0 T) H' z ∧ SInv z 0 ∧ (∀ b ∈ z.x.t.dn :: z.all, upd H q o b = none) ∧ D ∉ z.all) ∧ zs.Pairwise Apart) ?_ ?_ ?_
    · exact ⟨[], rfl, (PX.refl p0).new hD, upd_same, (fun z hz => by cases hz), .nil⟩
    · rintro i H' hi ⟨zs, hz, px, eD, all, pw⟩
      refine Z.w_gname rfl ⟨rfl, ?_⟩
      walk_at "w"
      refine ⟨q, rfl, px.pl, tabs_lst tb eq px.sx, fun z H2 px2 hn2 so2 si2 => ?_⟩
      have eD2 := px2.sx _ _ nDq eD
      have fr : ∀ b u, b ≠ D → H2 b = some u → upd H2 D (.lst ((zs ++ [z]).map fun z => V.ref z.Sa)) b = some u := fun b u n e => (upd_ne n).trans e
      have Dz : D ∉ z.all := fun m => by
        rw [hn2 D (List.mem_cons_of_mem _ m)] at eD
        cases eD
      have em : (zs.map fun z => V.ref z.Sa) ++ [V.ref z.Sa] = (zs ++ [z]).map fun z => V.ref z.Sa := by rw [List.map_append]; rfl
      refine ⟨_, eD2, by rw [List.length_map]; exact Nat.lt_of_le_of_lt (show zs.length ≤ 1000 by omega) (by decide), ?_⟩
      rw [em]
      refine ⟨zs ++ [z], by rw [List.length_append, hz]; rfl, (px.trans px2).mutN hD nDq, upd_same, fun y hy => ?_, ?_⟩
      · rcases List.mem_append.mp hy with hy | hy
        · obtain ⟨a1, a2, a3, a4⟩ := all y hy
          have qn : q ∉ y.all := fun m => by
            rw [a3 q (List.mem_cons_of_mem _ m)] at eq
            cases eq
          exact ⟨(a1.px px.pl qn px2).off eD2 a4 fr, a2, a3, a4⟩
        · rw [List.mem_singleton.mp hy]
          exact ⟨so2.off eD2 Dz fr, si2, fun b hb => fresh_px px p0 (hn2 b hb), Dz⟩
      · rw [List.pairwise_append]
        refine ⟨pw, List.pairwise_singleton _ _, fun y hy z' hz' => ?_⟩
        rw [List.mem_singleton.mp hz']
        obtain ⟨a1, a2, a3, a4⟩ := all y hy
        refine ⟨fun b hb m => ?_, fun b hb m => ?_⟩
        · obtain ⟨x, e, _⟩ := a1.val hb
          rw [hn2 b (List.mem_cons_of_mem _ m)] at e
          cases e
        · obtain ⟨x, e, _⟩ := a1.val (List.mem_cons_of_mem _ m)
          rw [hn2 b hb] at e
          cases e
    · rintro H1 ⟨zs, hz, px, eD, all, pw⟩
      obtain ⟨y0, z0, rfl⟩ : ∃ y0 z0, zs = [y0, z0] := by
        match zs, hz with
        | [y0, z0], _ => exact ⟨y0, z0, rfl⟩
      obtain ⟨a1, a2, a3, a4⟩ := all y0 List.mem_cons_self
      obtain ⟨b1, b2, b3, b4⟩ := all z0 (List.mem_cons_of_mem _ List.mem_cons_self)
      have hap : Apart y0 z0 := (List.pairwise_cons.mp pw).1 z0 List.mem_cons_self
      have qn : ∀ y : SS, (∀ b ∈ y.x.t.dn :: y.all, upd H q o b = none) → q ∉ y.all := fun y a3 m => by
        rw [a3 q (List.mem_cons_of_mem _ m)] at eq
        cases eq
      have hnH : ∀ b ∈ q :: (z0.all ++ (q :: y0.all)), H b = none := fun b hb => by
        simp only [List.mem_cons, List.mem_append] at hb
        rcases hb with rfl | hb | rfl | hb
        · exact fq
        · exact fresh_of1 sq (b3 b (List.mem_cons_of_mem _ hb))
        · exact fq
        · exact fresh_of1 sq (a3 b (List.mem_cons_of_mem _ hb))
      have lp : LP K T.C_Trail T.C_Watching (T0 T) H1 q q a (ns.map V.int) D y0.Sa z0.Sa y0 z0 0 := by
        refine ⟨a1, a2, b1, b2, hap, px.pl, qn _ a3, qn _ b3, px.pl, qn _ a3, qn _ b3, (Scr.mk hS hnH).same (PX.own fq px), .inl ⟨.inl eD, fun m => ?_⟩, .inl ⟨rfl, rfl⟩⟩
        simp only [List.mem_cons, List.mem_append] at m
        rcases m with m | m | m | m
        · exact nDq m
        · exact b4 m
        · exact nDq m
        · exact a4 m
      clear eD all pw a1 a2 a3 a4 b1 b2 b3 b4 hap qn hnH px
      have hS1 := lp.sb.sq
      walk_at "w"
      generalize hSa : y0.Sa = Sa at lp hS1
      generalize hSb : z0.Sa = Sb at lp hS1
      refine for_list (K := K) (xs := [.ref Sa, .ref Sb]) (fun i σ H' => ∃ (x4 x5 : Option V) (y z : SS), σ = [some (.ref a), some (.ref q), some (.ref D), none, x4, x5, none, none] ∧ LP K T.C_Trail T.C_Watching (T0 T) H' q q a (ns.map V.int) D Sa Sb y z (68 * i)) ?_ ?_ ?_ ?_
      · exact ⟨_, _, y0, z0, rfl, lp⟩
      · rintro i σ H2 hi ⟨x4, x5, y, z, rfl, l2⟩
        exact l2.sb.sq
      · rintro i v σ H2 hv ⟨x4, x5, y, z, rfl, l2⟩
        have hi2 : i < 2 := (List.getElem?_eq_some_iff.mp hv).1
        obtain ⟨A, rfl, hA⟩ : ∃ A, v = .ref A ∧ (A = Sa ∨ A = Sb) := by
          match i, hv with
          | 0, hv => exact ⟨Sa, (Option.some.inj hv).symm, .inl rfl⟩
          | 1, hv => exact ⟨Sb, (Option.some.inj hv).symm, .inr rfl⟩
        obtain ⟨y, z, l2, rfl⟩ := l2.pick hA
        have hS2 := l2.sc.sq
        have pl2 := l2.pl
        have hs2 : atI y.line 2 = some (.ref y.An) := rfl
        walk_at "w"
        rename_i r3 H3 x3 r30 r31
        have l3 := l2.px x3
        have hS3 := l3.sc.sq
        have han3 := l3.so.an
        have hsa3 := l3.so.sa
        repeat' (first | with_reducible refine seqIf (fun σ' H' => ∃ N : Nat, σ' = [some (.ref a), some (.ref q), some (.ref D), none, some (.ref y.Sa), some (.int (N : Int)), none, none] ∧ LP K T.C_Trail T.C_Watching (T0 T) H' q q a (ns.map V.int) D Sa Sb y z (68 * i) ∧ N ≤ 68) (fun Rk kk => ?_) ?_ | walk_at "w1")
        · rw [List.length_map (as := y.x.ns)]
          have hM : ∃ M : Nat, (if 2 + 3 * ((ns.map V.int).length : Int) < r3 then 2 + 3 * ((ns.map V.int).length : Int) else r3) = (M : Int) ∧ M ≤ 8 := by
            rw [hnl]
            split
            · exact ⟨2 + 3 * ns.length, by omega, by omega⟩
            · obtain ⟨r3, rfl⟩ := Int.eq_ofNat_of_zero_le r30
              exact ⟨r3, rfl, by omega⟩
          obtain ⟨M, eM, hM8⟩ := hM
          rw [eM]
          by_cases e7 : (7 : Int) < y.x.ns.length
          · rw [decide_eq_true e7, if_pos rfl]
            walk_at "w"
            exact kk _ _ ⟨M + 60, rfl, l3, by omega⟩
          · rw [decide_eq_false e7, if_neg (by decide)]
            walk_at "w"
            exact kk _ _ ⟨M, rfl, l3, by omega⟩
        clear l3 hS3 han3 hsa3
        rintro σ' H3 ⟨N, rfl, l3, hN⟩
        walk_at "w"
        refine ⟨q, y, 68 * i, N, rfl, l3.pl, l3.qn, l3.so, l3.si, by omega, fun H4 y4 st4 => ?_⟩
        have l4 := l3.step st4 (by omega) (by omega)
        walk_at "w"
        refine ⟨y4, _, by rw [st4.sa], l4.so, l4.si, fun H5 y5 st5 _ => ?_⟩
        have l5 := l4.go st5 (Nat.le_refl _) (by omega)
        walk_at "w"
        exact ⟨_, _, y5, z, rfl, l5.up (by omega) (by omega)⟩
      · rintro σ H2 ⟨x4, x5, y, z, rfl, l2⟩
        have hS2 := l2.sc.sq
        have pl2 := l2.pl
        walk_at "w"
        rename_i r3 H3 x3 r30 r31
        have l3 := (l2.px x3).up (n := 136) (by simp) (by decide)
        have hS3 := l3.sc.sq
        clear l2 hS2 pl2
        walk_at "w"
        refine ⟨by split <;> omega, by split <;> omega, ?_⟩
        refine for_range (fun i σ H' => ∃ (x4 x5 x6 x7 : Option V) (y z : SS), σ = [some (.ref a), some (.ref q), some (.ref D), none, x4, x5, x6, x7] ∧ LP K T.C_Trail T.C_Watching (T0 T) H' q q a (ns.map V.int) D Sa Sb y z (136 + 3 * i)) ?_ ?_ ?_
        · exact ⟨_, _, _, _, y, z, rfl, l3⟩
        · clear l3 hS3
          rintro i σ H4 hi ⟨x4, x5, x6, x7, y, z, rfl, l4⟩
          have hi24 : i < 24 := by
            revert hi
            split <;> omega
          have hS4 := l4.sc.sq
          repeat' (first | with_reducible refine seqIf (fun σ' H9 => ∃ p, σ' = [some (.ref a), some (.ref q), some (.ref D), none, x4, x5, some (.int (0 + (i : Int))), some (.ref p)] ∧ LP K T.C_Trail T.C_Watching (T0 T) H9 q p a (ns.map V.int) D Sa Sb y z (136 + 3 * i)) (fun Rk kk => ?_) ?_ | walk_at "w1")
          · walk_at "wi"
            · walk_at "w"
              refine ⟨a, ns, _, rfl, hS4, hn, by omega, by omega, fun p o2 fp hpo2 => ?_⟩
              exact kk _ _ ⟨p, rfl, l4.new fp hpo2⟩
            · walk_at "w"
              exact kk _ _ ⟨q, rfl, l4⟩
          clear l4 hS4
          rintro σ' H5 ⟨p, rfl, l5⟩
          have pl5 := l5.pl
          walk_at "w"
          rename_i r6 H6 x6 r60 r61
          have l6 := l5.px x6
          clear l5 pl5
          obtain ⟨A, hA, eA⟩ : ∃ A, (A = Sa ∨ A = Sb) ∧ atI [V.ref Sa, V.ref Sb] (if decide (r6 = 0) = true then 1 else 0) = some (.ref A) := by
            by_cases e : r6 = 0
            · rw [decide_eq_true e, if_pos rfl]
              exact ⟨Sb, .inr rfl, rfl⟩
            · rw [decide_eq_false e, if_neg (by decide)]
              exact ⟨Sa, .inl rfl, rfl⟩
          generalize (if decide (r6 = 0) = true then (1 : Int) else 0) = j at eA ⊢
          have hD6 := l6.sb.sq
          obtain ⟨y, z, l6, rfl⟩ := l6.pick hA
          repeat' (first | with_reducible refine seqIf (fun σ' HA => ∃ yA, σ' = [some (.ref a), some (.ref q), some (.ref D), none, some (.ref y.Sa), x5, some (.int (0 + (i : Int))), some (.ref p)] ∧ LP K T.C_Trail T.C_Watching (T0 T) HA q p a (ns.map V.int) D Sa Sb yA z (136 + 3 * i) ∧ yA.Sa = y.Sa) (fun Rk kk => ?_) ?_ | walk_at "w1")
          · have hl6 := l6.si.len
            have hdl : dep y.rs ≤ y.rs.length := List.countP_le_length
            have hs7 : atI y.line 7 = some (.bl y.pr) := rfl
            refine ⟨y, rfl, l6.so, by omega, fun HB sB => ?_⟩
            have lB := l6.same sB
            have hsaB := lB.so.sa
            walk_at "w"
            by_cases e0 : (0 : Int) < dep y.rs
            · rw [decide_eq_true e0, if_pos rfl]
              walk_at "w"
              cases hpr : y.pr with
              | true =>
                rw [if_neg (by decide), if_neg (by decide)]
                walk_at "w"
                exact kk _ _ ⟨y, rfl, lB, rfl⟩
              | false =>
                rw [if_pos (by rfl)]
                walk_at "w"
                refine ⟨y, rfl, lB.so, by omega, fun HC sC => ?_⟩
                have lC := lB.same sC
                have plC := lC.pl
                walk_at "w"
                rename_i rD HD xD rD0 rD1
                obtain ⟨jD, rfl⟩ := Int.eq_ofNat_of_zero_le rD0
                have lD := lC.px xD
                refine ⟨y, _, jD, rfl, lD.so, lD.si, fun HE yE stE _ _ _ => ?_⟩
                walk_at "w"
                exact kk _ _ ⟨yE, rfl, lD.go stE (Nat.le_refl _) (by omega), stE.go.sa⟩
            · rw [decide_eq_false e0, if_neg (by decide), if_neg (by decide)]
              walk_at "w"
              exact kk _ _ ⟨y, rfl, lB, rfl⟩
          clear l6 hD6
          rintro σ' HA ⟨yA, rfl, lA, eyA⟩
          rw [← eyA]
          walk_at "w"
          refine ⟨p, yA, _, rfl, lA.pl, lA.qn, lA.so, lA.si, by omega, fun HB yB stB => ?_⟩
          have lB := lA.step stB (by omega) (by omega)
          walk_at "w"
          refine ⟨yB, _, by rw [stB.sa], lB.so, lB.si, fun HC yC stC _ => ?_⟩
          have lC := lB.go stC (Nat.le_refl _) (by omega)
          have eC : yC.Sa = yA.Sa := stC.go.sa.trans stB.sa
          have plC := lC.pl
          walk_at "w"
          rename_i rD HD xD rD0 rD1
          have lD := lC.px xD
          have hlD := lD.si.len
          have hdl : dep yC.rs ≤ yC.rs.length := List.countP_le_length
          have hsaD := lD.so.sa
          rw [eC] at hsaD
          have hs7 : atI yC.line 7 = some (.bl yC.pr) := rfl
          by_cases e1 : rD = 1
          · rw [decide_eq_true e1, if_pos rfl]
            walk_at "w"
            cases hpr : yC.pr with
            | true =>
              walk_at "w"
              refine ⟨yC, _, by rw [eC], lD.so, lD.si, fun HE yE stE _ => ?_⟩
              have lE := (lD.go stE (Nat.le_refl _) (by omega)).back
              walk_at "w"
              exact ⟨_, _, _, _, yE, z, rfl, lE⟩
            | false =>
              walk_at "w"
              refine ⟨yC, by rw [eC], lD.so, by omega, fun HE sE => ?_⟩
              have lE := lD.same sE
              walk_at "w"
              by_cases e0 : (dep yC.rs : Int) = 0
              · rw [decide_eq_true e0, if_pos rfl]
                walk_at "w"
                refine ⟨yC, _, by rw [eC], lE.so, lE.si, fun HF yF stF _ => ?_⟩
                have lF := (lE.go stF (Nat.le_refl _) (by omega)).back
                walk_at "w"
                exact ⟨_, _, _, _, yF, z, rfl, lF⟩
              · rw [decide_eq_false e0, if_neg (by decide), if_neg (by decide)]
                walk_at "w"
                exact ⟨_, _, _, _, yC, z, rfl, lE.back⟩
          · rw [decide_eq_false e1, if_neg (by decide), if_neg (by decide)]
            walk_at "w"
            exact ⟨_, _, _, _, yC, z, rfl, lD.back⟩
        · rintro σ H4 ⟨x4, x5, x6, x7, y, z, rfl, l4⟩
          have hD4 := l4.sb.sq
          have b0 : atI [V.ref Sa, V.ref Sb] 0 = some (.ref Sa) := rfl
          have b1 : atI [V.ref Sa, V.ref Sb] 1 = some (.ref Sb) := rfl
          walk_at "w"
          obtain ⟨y1, z1, l5, e5⟩ := l4.pick (.inl rfl)
          refine ⟨y1, _, by rw [e5], l5.so, l5.si, fun H6 s6 => ?_⟩
          have l6 := l5.same s6
          have hD6 := l6.sb.sq
          walk_at "w"
          obtain ⟨y2, z2, l7, e7⟩ := l6.pick (.inr rfl)
          refine ⟨y2, _, by rw [e7], l7.so, l7.si, fun H8 s8 => ?_⟩
          exact h _
end
end L

namespace X0
end X0
namespace L
open PySem PySem.Spec PyProof.Rows L2 Z X0
theorem all_mk {l : PySem.W.OpenLaw} {w : World} {K : PySem.W.Frag} {h : Heap} {mg : Str → Option Value} {fa : Addr} (X : K.In h) (G : h.Ns mainGlobals mg) (hfa : mg "law" = some (.ref fa))
    {f_pool : Addr} {od_pool an_pool : Option Addr} {sl_pool : Array (Option Value)} {oc_pool kV_pool dc_pool pm_pool cd_pool ct_pool  : Value}
    {f_take : Addr} {od_take an_take : Option Addr} {sl_take : Array (Option Value)} {oc_take kV_take dc_take pm_take cd_take ct_take  : Value}
    {f_whole : Addr} {od_whole an_whole : Option Addr} {sl_whole : Array (Option Value)} {oc_whole kV_whole dc_whole pm_whole cd_whole ct_whole  : Value}
    {f_alike : Addr} {od_alike an_alike : Option Addr} {sl_alike : Array (Option Value)} {oc_alike kV_alike dc_alike pm_alike cd_alike ct_alike  : Value}
    {f_list : Addr} {od_list an_list : Option Addr} {sl_list : Array (Option Value)} {oc_list kV_list dc_list pm_list cd_list ct_list  : Value}
    {f_seat : Addr} {od_seat an_seat : Option Addr} {sl_seat : Array (Option Value)} {oc_seat kV_seat dc_seat pm_seat cd_seat ct_seat  : Value}
    {f_stranger : Addr} {od_stranger an_stranger : Option Addr} {sl_stranger : Array (Option Value)} {oc_stranger kV_stranger dc_stranger pm_stranger cd_stranger ct_stranger  : Value}
    {f_clause : Addr} {od_clause an_clause : Option Addr} {sl_clause : Array (Option Value)} {oc_clause kV_clause dc_clause pm_clause cd_clause ct_clause  : Value}
    {f_refused : Addr} {od_refused an_refused : Option Addr} {sl_refused : Array (Option Value)} {oc_refused kV_refused dc_refused pm_refused cd_refused ct_refused  : Value}
    {f_refused_base : Addr} {od_refused_base an_refused_base : Option Addr} {sl_refused_base : Array (Option Value)} {oc_refused_base kV_refused_base dc_refused_base pm_refused_base cd_refused_base ct_refused_base  : Value}
    {f_bad_put : Addr} {od_bad_put an_bad_put : Option Addr} {sl_bad_put : Array (Option Value)} {oc_bad_put kV_bad_put dc_bad_put pm_bad_put cd_bad_put ct_bad_put  : Value}
    {f_watched : Addr} {od_watched an_watched : Option Addr} {sl_watched : Array (Option Value)} {oc_watched kV_watched dc_watched pm_watched cd_watched ct_watched  : Value}
    {f_put : Addr} {od_put an_put : Option Addr} {sl_put : Array (Option Value)} {oc_put kV_put dc_put pm_put cd_put ct_put  : Value}
    {f_depth : Addr} {od_depth an_depth : Option Addr} {sl_depth : Array (Option Value)} {oc_depth kV_depth dc_depth pm_depth cd_depth ct_depth  : Value}
    {f_stands : Addr} {od_stands an_stands : Option Addr} {sl_stands : Array (Option Value)} {oc_stands kV_stands dc_stands pm_stands cd_stands ct_stands  : Value}
    {f_back : Addr} {od_back an_back : Option Addr} {sl_back : Array (Option Value)} {oc_back kV_back dc_back pm_back cd_back ct_back  : Value}
    {f_grown : Addr} {od_grown an_grown : Option Addr} {sl_grown : Array (Option Value)} {oc_grown kV_grown dc_grown pm_grown cd_grown ct_grown  : Value}
    {f_closure : Addr} {od_closure an_closure : Option Addr} {sl_closure : Array (Option Value)} {oc_closure kV_closure dc_closure pm_closure cd_closure ct_closure  : Value}
    {f_propagates : Addr} {od_propagates an_propagates : Option Addr} {sl_propagates : Array (Option Value)} {oc_propagates kV_propagates dc_propagates pm_propagates cd_propagates ct_propagates  : Value}
    {f_open : Addr} {od_open an_open : Option Addr} {sl_open : Array (Option Value)} {oc_open kV_open dc_open pm_open cd_open ct_open  : Value}
    {f_forget : Addr} {od_forget an_forget : Option Addr} {sl_forget : Array (Option Value)} {oc_forget kV_forget dc_forget pm_forget cd_forget ct_forget  : Value}
    {f_lot : Addr} {od_lot an_lot : Option Addr} {sl_lot : Array (Option Value)} {oc_lot kV_lot dc_lot pm_lot cd_lot ct_lot  : Value}
    {f_deed : Addr} {od_deed an_deed : Option Addr} {sl_deed : Array (Option Value)} {oc_deed kV_deed dc_deed pm_deed cd_deed ct_deed  : Value}
    {f_kept : Addr} {od_kept an_kept : Option Addr} {sl_kept : Array (Option Value)} {oc_kept kV_kept dc_kept pm_kept cd_kept ct_kept  : Value}
    {f_law : Addr} {od_law an_law : Option Addr} {sl_law : Array (Option Value)} {oc_law kV_law dc_law pm_law cd_law ct_law  : Value}
    {C_BadLiteral : Addr}
    {C_PaperError : Addr}
    {nm_BadLiteral q_BadLiteral : Str} {N_BadLiteral : Addr} {bs_BadLiteral : List Value} {sn_BadLiteral : List Str} {sub_BadLiteral : List Value} {ab_BadLiteral : Bool} {col_BadLiteral : Option Bool} {dd_BadLiteral : Option Addr} {m0_BadLiteral m1_BadLiteral m2_BadLiteral m3_BadLiteral m5_BadLiteral : Option Value}
    {c_bw P_bw : Addr}
    {C_Trail : Addr}
    {C_Watching : Addr}
    {f_Watching_init : Addr} {od_Watching_init an_Watching_init : Option Addr} {sl_Watching_init : Array (Option Value)} {oc_Watching_init kV_Watching_init dc_Watching_init pm_Watching_init cd_Watching_init ct_Watching_init : Value}
    {f_Watching_put : Addr} {od_Watching_put an_Watching_put : Option Addr} {sl_Watching_put : Array (Option Value)} {oc_Watching_put kV_Watching_put dc_Watching_put pm_Watching_put cd_Watching_put ct_Watching_put : Value}
    {f_Watching_clause : Addr} {od_Watching_clause an_Watching_clause : Option Addr} {sl_Watching_clause : Array (Option Value)} {oc_Watching_clause kV_Watching_clause dc_Watching_clause pm_Watching_clause cd_Watching_clause ct_Watching_clause : Value}
    {f_Watching_source : Addr} {od_Watching_source an_Watching_source : Option Addr} {sl_Watching_source : Array (Option Value)} {oc_Watching_source kV_Watching_source dc_Watching_source pm_Watching_source cd_Watching_source ct_Watching_source : Value}
    {f_Watching_watched : Addr} {od_Watching_watched an_Watching_watched : Option Addr} {sl_Watching_watched : Array (Option Value)} {oc_Watching_watched kV_Watching_watched dc_Watching_watched pm_Watching_watched cd_Watching_watched ct_Watching_watched : Value}
    {f_Watching_propagate : Addr} {od_Watching_propagate an_Watching_propagate : Option Addr} {sl_Watching_propagate : Array (Option Value)} {oc_Watching_propagate kV_Watching_propagate dc_Watching_propagate pm_Watching_propagate cd_Watching_propagate ct_Watching_propagate : Value}
    {f_Watching_forget : Addr} {od_Watching_forget an_Watching_forget : Option Addr} {sl_Watching_forget : Array (Option Value)} {oc_Watching_forget kV_Watching_forget dc_Watching_forget pm_Watching_forget cd_Watching_forget ct_Watching_forget : Value}
    {f_Watching_size : Addr} {od_Watching_size an_Watching_size : Option Addr} {sl_Watching_size : Array (Option Value)} {oc_Watching_size kV_Watching_size dc_Watching_size pm_Watching_size cd_Watching_size ct_Watching_size : Value}
    {f_Watching_best_watched : Addr} {od_Watching_best_watched an_Watching_best_watched : Option Addr} {sl_Watching_best_watched : Array (Option Value)} {oc_Watching_best_watched kV_Watching_best_watched dc_Watching_best_watched pm_Watching_best_watched cd_Watching_best_watched ct_Watching_best_watched : Value}
    {f_Watching_rank : Addr} {od_Watching_rank an_Watching_rank : Option Addr} {sl_Watching_rank : Array (Option Value)} {oc_Watching_rank kV_Watching_rank dc_Watching_rank pm_Watching_rank cd_Watching_rank ct_Watching_rank : Value}
    {f_Watching_look_at_fresh : Addr} {od_Watching_look_at_fresh an_Watching_look_at_fresh : Option Addr} {sl_Watching_look_at_fresh : Array (Option Value)} {oc_Watching_look_at_fresh kV_Watching_look_at_fresh dc_Watching_look_at_fresh pm_Watching_look_at_fresh cd_Watching_look_at_fresh ct_Watching_look_at_fresh : Value}
    {f_Watching_is_false_or_forces : Addr} {od_Watching_is_false_or_forces an_Watching_is_false_or_forces : Option Addr} {sl_Watching_is_false_or_forces : Array (Option Value)} {oc_Watching_is_false_or_forces kV_Watching_is_false_or_forces dc_Watching_is_false_or_forces pm_Watching_is_false_or_forces cd_Watching_is_false_or_forces ct_Watching_is_false_or_forces : Value}
    {f_Watching_visit : Addr} {od_Watching_visit an_Watching_visit : Option Addr} {sl_Watching_visit : Array (Option Value)} {oc_Watching_visit kV_Watching_visit dc_Watching_visit pm_Watching_visit cd_Watching_visit ct_Watching_visit : Value}
    {f_Watching_other : Addr} {od_Watching_other an_Watching_other : Option Addr} {sl_Watching_other : Array (Option Value)} {oc_Watching_other kV_Watching_other dc_Watching_other pm_Watching_other cd_Watching_other ct_Watching_other : Value}
    {f_Watching_moves : Addr} {od_Watching_moves an_Watching_moves : Option Addr} {sl_Watching_moves : Array (Option Value)} {oc_Watching_moves kV_Watching_moves dc_Watching_moves pm_Watching_moves cd_Watching_moves ct_Watching_moves : Value}
    {f_Watching_clash_or_force : Addr} {od_Watching_clash_or_force an_Watching_clash_or_force : Option Addr} {sl_Watching_clash_or_force : Array (Option Value)} {oc_Watching_clash_or_force kV_Watching_clash_or_force dc_Watching_clash_or_force pm_Watching_clash_or_force cd_Watching_clash_or_force ct_Watching_clash_or_force : Value}
    {f_BadLiteral_init : Addr} {od_BadLiteral_init an_BadLiteral_init : Option Addr} {sl_BadLiteral_init : Array (Option Value)} {oc_BadLiteral_init kV_BadLiteral_init dc_BadLiteral_init pm_BadLiteral_init cd_BadLiteral_init ct_BadLiteral_init : Value}
    {f_Trail_init : Addr} {od_Trail_init an_Trail_init : Option Addr} {sl_Trail_init : Array (Option Value)} {oc_Trail_init kV_Trail_init dc_Trail_init pm_Trail_init cd_Trail_init ct_Trail_init : Value}
    {f_Trail_choose : Addr} {od_Trail_choose an_Trail_choose : Option Addr} {sl_Trail_choose : Array (Option Value)} {oc_Trail_choose kV_Trail_choose dc_Trail_choose pm_Trail_choose cd_Trail_choose ct_Trail_choose : Value}
    {f_Trail_force : Addr} {od_Trail_force an_Trail_force : Option Addr} {sl_Trail_force : Array (Option Value)} {oc_Trail_force kV_Trail_force dc_Trail_force pm_Trail_force cd_Trail_force ct_Trail_force : Value}
    {f_Trail_back : Addr} {od_Trail_back an_Trail_back : Option Addr} {sl_Trail_back : Array (Option Value)} {oc_Trail_back kV_Trail_back dc_Trail_back pm_Trail_back cd_Trail_back ct_Trail_back : Value}
    {f_Trail_value : Addr} {od_Trail_value an_Trail_value : Option Addr} {sl_Trail_value : Array (Option Value)} {oc_Trail_value kV_Trail_value dc_Trail_value pm_Trail_value cd_Trail_value ct_Trail_value : Value}
    {f_Trail_level_of : Addr} {od_Trail_level_of an_Trail_level_of : Option Addr} {sl_Trail_level_of : Array (Option Value)} {oc_Trail_level_of kV_Trail_level_of dc_Trail_level_of pm_Trail_level_of cd_Trail_level_of ct_Trail_level_of : Value}
    {f_Trail_reason_of : Addr} {od_Trail_reason_of an_Trail_reason_of : Option Addr} {sl_Trail_reason_of : Array (Option Value)} {oc_Trail_reason_of kV_Trail_reason_of dc_Trail_reason_of pm_Trail_reason_of cd_Trail_reason_of ct_Trail_reason_of : Value}
    {f_Trail_place_of : Addr} {od_Trail_place_of an_Trail_place_of : Option Addr} {sl_Trail_place_of : Array (Option Value)} {oc_Trail_place_of kV_Trail_place_of dc_Trail_place_of pm_Trail_place_of cd_Trail_place_of ct_Trail_place_of : Value}
    {f_Trail_literals : Addr} {od_Trail_literals an_Trail_literals : Option Addr} {sl_Trail_literals : Array (Option Value)} {oc_Trail_literals kV_Trail_literals dc_Trail_literals pm_Trail_literals cd_Trail_literals ct_Trail_literals : Value}
    {f_Trail_sizes : Addr} {od_Trail_sizes an_Trail_sizes : Option Addr} {sl_Trail_sizes : Array (Option Value)} {oc_Trail_sizes kV_Trail_sizes dc_Trail_sizes pm_Trail_sizes cd_Trail_sizes ct_Trail_sizes : Value}
    {f_Trail_depth : Addr} {od_Trail_depth an_Trail_depth : Option Addr} {sl_Trail_depth : Array (Option Value)} {oc_Trail_depth kV_Trail_depth dc_Trail_depth pm_Trail_depth cd_Trail_depth ct_Trail_depth : Value}
    {f_Trail_put_since : Addr} {od_Trail_put_since an_Trail_put_since : Option Addr} {sl_Trail_put_since : Array (Option Value)} {oc_Trail_put_since kV_Trail_put_since dc_Trail_put_since pm_Trail_put_since cd_Trail_put_since ct_Trail_put_since : Value}
    {f_Trail_contains : Addr} {od_Trail_contains an_Trail_contains : Option Addr} {sl_Trail_contains : Array (Option Value)} {oc_Trail_contains kV_Trail_contains dc_Trail_contains pm_Trail_contains cd_Trail_contains ct_Trail_contains : Value}
    {f_Trail_put : Addr} {od_Trail_put an_Trail_put : Option Addr} {sl_Trail_put : Array (Option Value)} {oc_Trail_put kV_Trail_put dc_Trail_put pm_Trail_put cd_Trail_put ct_Trail_put : Value}
    {f_Trail_refuse_unknown : Addr} {od_Trail_refuse_unknown an_Trail_refuse_unknown : Option Addr} {sl_Trail_refuse_unknown : Array (Option Value)} {oc_Trail_refuse_unknown kV_Trail_refuse_unknown dc_Trail_refuse_unknown pm_Trail_refuse_unknown cd_Trail_refuse_unknown ct_Trail_refuse_unknown : Value}
    {f_Trail_refuse_unless_open : Addr} {od_Trail_refuse_unless_open an_Trail_refuse_unless_open : Option Addr} {sl_Trail_refuse_unless_open : Array (Option Value)} {oc_Trail_refuse_unless_open kV_Trail_refuse_unless_open dc_Trail_refuse_unless_open pm_Trail_refuse_unless_open cd_Trail_refuse_unless_open ct_Trail_refuse_unless_open : Value}
    (a_pool : PySem.W.nsIn K mainGlobals "_law_pool" = some (some (.ref f_pool)))
    (l_pool : K.lookup f_pool = some ⟨oc_pool, od_pool, .func (PySem.W.fnOf "_law_pool" "_law_pool" (defArgs s_pool) (defBody s_pool) (defScope s_pool) .none kV_pool dc_pool pm_pool an_pool cd_pool ct_pool), sl_pool⟩)
    (c_pool : PySem.W.codeIn K cd_pool "_law_pool" = true)
    (k_pool : PySem.W.keepIn K (.ref f_pool) = true)
    (a_take : PySem.W.nsIn K mainGlobals "_law_take" = some (some (.ref f_take)))
    (l_take : K.lookup f_take = some ⟨oc_take, od_take, .func (PySem.W.fnOf "_law_take" "_law_take" (defArgs s_take) (defBody s_take) (defScope s_take) .none kV_take dc_take pm_take an_take cd_take ct_take), sl_take⟩)
    (c_take : PySem.W.codeIn K cd_take "_law_take" = true)
    (k_take : PySem.W.keepIn K (.ref f_take) = true)
    (a_whole : PySem.W.nsIn K mainGlobals "_law_whole" = some (some (.ref f_whole)))
    (l_whole : K.lookup f_whole = some ⟨oc_whole, od_whole, .func (PySem.W.fnOf "_law_whole" "_law_whole" (defArgs s_whole) (defBody s_whole) (defScope s_whole) .none kV_whole dc_whole pm_whole an_whole cd_whole ct_whole), sl_whole⟩)
    (c_whole : PySem.W.codeIn K cd_whole "_law_whole" = true)
    (k_whole : PySem.W.keepIn K (.ref f_whole) = true)
    (a_alike : PySem.W.nsIn K mainGlobals "_law_alike" = some (some (.ref f_alike)))
    (l_alike : K.lookup f_alike = some ⟨oc_alike, od_alike, .func (PySem.W.fnOf "_law_alike" "_law_alike" (defArgs s_alike) (defBody s_alike) (defScope s_alike) .none kV_alike dc_alike pm_alike an_alike cd_alike ct_alike), sl_alike⟩)
    (c_alike : PySem.W.codeIn K cd_alike "_law_alike" = true)
    (k_alike : PySem.W.keepIn K (.ref f_alike) = true)
    (a_list : PySem.W.nsIn K mainGlobals "_law_list" = some (some (.ref f_list)))
    (l_list : K.lookup f_list = some ⟨oc_list, od_list, .func (PySem.W.fnOf "_law_list" "_law_list" (defArgs s_list) (defBody s_list) (defScope s_list) .none kV_list dc_list pm_list an_list cd_list ct_list), sl_list⟩)
    (c_list : PySem.W.codeIn K cd_list "_law_list" = true)
    (k_list : PySem.W.keepIn K (.ref f_list) = true)
    (a_seat : PySem.W.nsIn K mainGlobals "_law_seat" = some (some (.ref f_seat)))
    (l_seat : K.lookup f_seat = some ⟨oc_seat, od_seat, .func (PySem.W.fnOf "_law_seat" "_law_seat" (defArgs s_seat) (defBody s_seat) (defScope s_seat) .none kV_seat dc_seat pm_seat an_seat cd_seat ct_seat), sl_seat⟩)
    (c_seat : PySem.W.codeIn K cd_seat "_law_seat" = true)
    (k_seat : PySem.W.keepIn K (.ref f_seat) = true)
    (a_stranger : PySem.W.nsIn K mainGlobals "_law_stranger" = some (some (.ref f_stranger)))
    (l_stranger : K.lookup f_stranger = some ⟨oc_stranger, od_stranger, .func (PySem.W.fnOf "_law_stranger" "_law_stranger" (defArgs s_stranger) (defBody s_stranger) (defScope s_stranger) .none kV_stranger dc_stranger pm_stranger an_stranger cd_stranger ct_stranger), sl_stranger⟩)
    (c_stranger : PySem.W.codeIn K cd_stranger "_law_stranger" = true)
    (k_stranger : PySem.W.keepIn K (.ref f_stranger) = true)
    (a_clause : PySem.W.nsIn K mainGlobals "_law_clause" = some (some (.ref f_clause)))
    (l_clause : K.lookup f_clause = some ⟨oc_clause, od_clause, .func (PySem.W.fnOf "_law_clause" "_law_clause" (defArgs s_clause) (defBody s_clause) (defScope s_clause) .none kV_clause dc_clause pm_clause an_clause cd_clause ct_clause), sl_clause⟩)
    (c_clause : PySem.W.codeIn K cd_clause "_law_clause" = true)
    (k_clause : PySem.W.keepIn K (.ref f_clause) = true)
    (a_refused : PySem.W.nsIn K mainGlobals "_law_refused" = some (some (.ref f_refused)))
    (l_refused : K.lookup f_refused = some ⟨oc_refused, od_refused, .func (PySem.W.fnOf "_law_refused" "_law_refused" (defArgs s_refused) (defBody s_refused) (defScope s_refused) .none kV_refused dc_refused pm_refused an_refused cd_refused ct_refused), sl_refused⟩)
    (c_refused : PySem.W.codeIn K cd_refused "_law_refused" = true)
    (k_refused : PySem.W.keepIn K (.ref f_refused) = true)
    (a_refused_base : PySem.W.nsIn K mainGlobals "_law_refused_base" = some (some (.ref f_refused_base)))
    (l_refused_base : K.lookup f_refused_base = some ⟨oc_refused_base, od_refused_base, .func (PySem.W.fnOf "_law_refused_base" "_law_refused_base" (defArgs s_refused_base) (defBody s_refused_base) (defScope s_refused_base) .none kV_refused_base dc_refused_base pm_refused_base an_refused_base cd_refused_base ct_refused_base), sl_refused_base⟩)
    (c_refused_base : PySem.W.codeIn K cd_refused_base "_law_refused_base" = true)
    (k_refused_base : PySem.W.keepIn K (.ref f_refused_base) = true)
    (a_bad_put : PySem.W.nsIn K mainGlobals "_law_bad_put" = some (some (.ref f_bad_put)))
    (l_bad_put : K.lookup f_bad_put = some ⟨oc_bad_put, od_bad_put, .func (PySem.W.fnOf "_law_bad_put" "_law_bad_put" (defArgs s_bad_put) (defBody s_bad_put) (defScope s_bad_put) .none kV_bad_put dc_bad_put pm_bad_put an_bad_put cd_bad_put ct_bad_put), sl_bad_put⟩)
    (c_bad_put : PySem.W.codeIn K cd_bad_put "_law_bad_put" = true)
    (k_bad_put : PySem.W.keepIn K (.ref f_bad_put) = true)
    (a_watched : PySem.W.nsIn K mainGlobals "_law_watched" = some (some (.ref f_watched)))
    (l_watched : K.lookup f_watched = some ⟨oc_watched, od_watched, .func (PySem.W.fnOf "_law_watched" "_law_watched" (defArgs s_watched) (defBody s_watched) (defScope s_watched) .none kV_watched dc_watched pm_watched an_watched cd_watched ct_watched), sl_watched⟩)
    (c_watched : PySem.W.codeIn K cd_watched "_law_watched" = true)
    (k_watched : PySem.W.keepIn K (.ref f_watched) = true)
    (a_put : PySem.W.nsIn K mainGlobals "_law_put" = some (some (.ref f_put)))
    (l_put : K.lookup f_put = some ⟨oc_put, od_put, .func (PySem.W.fnOf "_law_put" "_law_put" (defArgs s_put) (defBody s_put) (defScope s_put) .none kV_put dc_put pm_put an_put cd_put ct_put), sl_put⟩)
    (c_put : PySem.W.codeIn K cd_put "_law_put" = true)
    (k_put : PySem.W.keepIn K (.ref f_put) = true)
    (a_depth : PySem.W.nsIn K mainGlobals "_law_depth" = some (some (.ref f_depth)))
    (l_depth : K.lookup f_depth = some ⟨oc_depth, od_depth, .func (PySem.W.fnOf "_law_depth" "_law_depth" (defArgs s_depth) (defBody s_depth) (defScope s_depth) .none kV_depth dc_depth pm_depth an_depth cd_depth ct_depth), sl_depth⟩)
    (c_depth : PySem.W.codeIn K cd_depth "_law_depth" = true)
    (k_depth : PySem.W.keepIn K (.ref f_depth) = true)
    (a_stands : PySem.W.nsIn K mainGlobals "_law_stands" = some (some (.ref f_stands)))
    (l_stands : K.lookup f_stands = some ⟨oc_stands, od_stands, .func (PySem.W.fnOf "_law_stands" "_law_stands" (defArgs s_stands) (defBody s_stands) (defScope s_stands) .none kV_stands dc_stands pm_stands an_stands cd_stands ct_stands), sl_stands⟩)
    (c_stands : PySem.W.codeIn K cd_stands "_law_stands" = true)
    (k_stands : PySem.W.keepIn K (.ref f_stands) = true)
    (a_back : PySem.W.nsIn K mainGlobals "_law_back" = some (some (.ref f_back)))
    (l_back : K.lookup f_back = some ⟨oc_back, od_back, .func (PySem.W.fnOf "_law_back" "_law_back" (defArgs s_back) (defBody s_back) (defScope s_back) .none kV_back dc_back pm_back an_back cd_back ct_back), sl_back⟩)
    (c_back : PySem.W.codeIn K cd_back "_law_back" = true)
    (k_back : PySem.W.keepIn K (.ref f_back) = true)
    (a_grown : PySem.W.nsIn K mainGlobals "_law_grown" = some (some (.ref f_grown)))
    (l_grown : K.lookup f_grown = some ⟨oc_grown, od_grown, .func (PySem.W.fnOf "_law_grown" "_law_grown" (defArgs s_grown) (defBody s_grown) (defScope s_grown) .none kV_grown dc_grown pm_grown an_grown cd_grown ct_grown), sl_grown⟩)
    (c_grown : PySem.W.codeIn K cd_grown "_law_grown" = true)
    (k_grown : PySem.W.keepIn K (.ref f_grown) = true)
    (a_closure : PySem.W.nsIn K mainGlobals "_law_closure" = some (some (.ref f_closure)))
    (l_closure : K.lookup f_closure = some ⟨oc_closure, od_closure, .func (PySem.W.fnOf "_law_closure" "_law_closure" (defArgs s_closure) (defBody s_closure) (defScope s_closure) .none kV_closure dc_closure pm_closure an_closure cd_closure ct_closure), sl_closure⟩)
    (c_closure : PySem.W.codeIn K cd_closure "_law_closure" = true)
    (k_closure : PySem.W.keepIn K (.ref f_closure) = true)
    (a_propagates : PySem.W.nsIn K mainGlobals "_law_propagates" = some (some (.ref f_propagates)))
    (l_propagates : K.lookup f_propagates = some ⟨oc_propagates, od_propagates, .func (PySem.W.fnOf "_law_propagates" "_law_propagates" (defArgs s_propagates) (defBody s_propagates) (defScope s_propagates) .none kV_propagates dc_propagates pm_propagates an_propagates cd_propagates ct_propagates), sl_propagates⟩)
    (c_propagates : PySem.W.codeIn K cd_propagates "_law_propagates" = true)
    (k_propagates : PySem.W.keepIn K (.ref f_propagates) = true)
    (a_open : PySem.W.nsIn K mainGlobals "_law_open" = some (some (.ref f_open)))
    (l_open : K.lookup f_open = some ⟨oc_open, od_open, .func (PySem.W.fnOf "_law_open" "_law_open" (defArgs s_open) (defBody s_open) (defScope s_open) .none kV_open dc_open pm_open an_open cd_open ct_open), sl_open⟩)
    (c_open : PySem.W.codeIn K cd_open "_law_open" = true)
    (k_open : PySem.W.keepIn K (.ref f_open) = true)
    (a_forget : PySem.W.nsIn K mainGlobals "_law_forget" = some (some (.ref f_forget)))
    (l_forget : K.lookup f_forget = some ⟨oc_forget, od_forget, .func (PySem.W.fnOf "_law_forget" "_law_forget" (defArgs s_forget) (defBody s_forget) (defScope s_forget) .none kV_forget dc_forget pm_forget an_forget cd_forget ct_forget), sl_forget⟩)
    (c_forget : PySem.W.codeIn K cd_forget "_law_forget" = true)
    (k_forget : PySem.W.keepIn K (.ref f_forget) = true)
    (a_lot : PySem.W.nsIn K mainGlobals "_law_lot" = some (some (.ref f_lot)))
    (l_lot : K.lookup f_lot = some ⟨oc_lot, od_lot, .func (PySem.W.fnOf "_law_lot" "_law_lot" (defArgs s_lot) (defBody s_lot) (defScope s_lot) .none kV_lot dc_lot pm_lot an_lot cd_lot ct_lot), sl_lot⟩)
    (c_lot : PySem.W.codeIn K cd_lot "_law_lot" = true)
    (k_lot : PySem.W.keepIn K (.ref f_lot) = true)
    (a_deed : PySem.W.nsIn K mainGlobals "_law_deed" = some (some (.ref f_deed)))
    (l_deed : K.lookup f_deed = some ⟨oc_deed, od_deed, .func (PySem.W.fnOf "_law_deed" "_law_deed" (defArgs s_deed) (defBody s_deed) (defScope s_deed) .none kV_deed dc_deed pm_deed an_deed cd_deed ct_deed), sl_deed⟩)
    (c_deed : PySem.W.codeIn K cd_deed "_law_deed" = true)
    (k_deed : PySem.W.keepIn K (.ref f_deed) = true)
    (a_kept : PySem.W.nsIn K mainGlobals "_law_kept" = some (some (.ref f_kept)))
    (l_kept : K.lookup f_kept = some ⟨oc_kept, od_kept, .func (PySem.W.fnOf "_law_kept" "_law_kept" (defArgs s_kept) (defBody s_kept) (defScope s_kept) .none kV_kept dc_kept pm_kept an_kept cd_kept ct_kept), sl_kept⟩)
    (c_kept : PySem.W.codeIn K cd_kept "_law_kept" = true)
    (k_kept : PySem.W.keepIn K (.ref f_kept) = true)
    (a_law : PySem.W.nsIn K mainGlobals "law" = some (some (.ref f_law)))
    (l_law : K.lookup f_law = some ⟨oc_law, od_law, .func (PySem.W.fnOf "law" "law" (defArgs s_law) (defBody s_law) (defScope s_law) .none kV_law dc_law pm_law an_law cd_law ct_law), sl_law⟩)
    (c_law : PySem.W.codeIn K cd_law "law" = true)
    (k_law : PySem.W.keepIn K (.ref f_law) = true)
    (m_len : PySem.W.nsIn K mainGlobals "len" = some none)
    (m_int : PySem.W.nsIn K mainGlobals "int" = some none)
    (m_abs : PySem.W.nsIn K mainGlobals "abs" = some none)
    (m_min : PySem.W.nsIn K mainGlobals "min" = some none)
    (m_max : PySem.W.nsIn K mainGlobals "max" = some none)
    (m_isinstance : PySem.W.nsIn K mainGlobals "isinstance" = some none)
    (m_range : PySem.W.nsIn K mainGlobals "range" = some none)
    (m_bool : PySem.W.nsIn K mainGlobals "bool" = some none)
    (m_list : PySem.W.nsIn K mainGlobals "list" = some none)
    (m_tuple : PySem.W.nsIn K mainGlobals "tuple" = some none)
    (m_sorted : PySem.W.nsIn K mainGlobals "sorted" = some none)
    (m_enumerate : PySem.W.nsIn K mainGlobals "enumerate" = some none)
    (m_zip : PySem.W.nsIn K mainGlobals "zip" = some none)
    (m_ValueError : PySem.W.nsIn K mainGlobals "ValueError" = some none)
    (n_BadLiteral : PySem.W.nsIn K mainGlobals "BadLiteral" = some (some (.ref C_BadLiteral)))
    (n_PaperError : PySem.W.nsIn K mainGlobals "PaperError" = some (some (.ref C_PaperError)))
    (n_Trail : PySem.W.nsIn K mainGlobals "Trail" = some (some (.ref C_Trail)))
    (n_Watching : PySem.W.nsIn K mainGlobals "Watching" = some (some (.ref C_Watching)))
    (a_Watching_init : PySem.W.findIn K (.ref C_Watching) "__init__" = some (some (.ref f_Watching_init)))
    (i_Watching_init : PySem.W.typeIn K (.ref f_Watching_init) = some (.type "function"))
    (l_Watching_init : K.lookup f_Watching_init = some ⟨oc_Watching_init, od_Watching_init, .func (PySem.W.fnOf "__init__" "Watching.__init__" (defArgs s_Watching_init) (defBody s_Watching_init) (defScope s_Watching_init) .none kV_Watching_init dc_Watching_init pm_Watching_init an_Watching_init cd_Watching_init ct_Watching_init), sl_Watching_init⟩)
    (c_Watching_init : PySem.W.codeIn K cd_Watching_init "Watching.__init__" = true)
    (k_Watching_init : PySem.W.keepIn K (.ref f_Watching_init) = true)
    (a_Watching_put : PySem.W.findIn K (.ref C_Watching) "put" = some (some (.ref f_Watching_put)))
    (i_Watching_put : PySem.W.typeIn K (.ref f_Watching_put) = some (.type "function"))
    (l_Watching_put : K.lookup f_Watching_put = some ⟨oc_Watching_put, od_Watching_put, .func (PySem.W.fnOf "put" "Watching.put" (defArgs s_Watching_put) (defBody s_Watching_put) (defScope s_Watching_put) .none kV_Watching_put dc_Watching_put pm_Watching_put an_Watching_put cd_Watching_put ct_Watching_put), sl_Watching_put⟩)
    (c_Watching_put : PySem.W.codeIn K cd_Watching_put "Watching.put" = true)
    (k_Watching_put : PySem.W.keepIn K (.ref f_Watching_put) = true)
    (a_Watching_clause : PySem.W.findIn K (.ref C_Watching) "clause" = some (some (.ref f_Watching_clause)))
    (i_Watching_clause : PySem.W.typeIn K (.ref f_Watching_clause) = some (.type "function"))
    (l_Watching_clause : K.lookup f_Watching_clause = some ⟨oc_Watching_clause, od_Watching_clause, .func (PySem.W.fnOf "clause" "Watching.clause" (defArgs s_Watching_clause) (defBody s_Watching_clause) (defScope s_Watching_clause) .none kV_Watching_clause dc_Watching_clause pm_Watching_clause an_Watching_clause cd_Watching_clause ct_Watching_clause), sl_Watching_clause⟩)
    (c_Watching_clause : PySem.W.codeIn K cd_Watching_clause "Watching.clause" = true)
    (k_Watching_clause : PySem.W.keepIn K (.ref f_Watching_clause) = true)
    (a_Watching_source : PySem.W.findIn K (.ref C_Watching) "source" = some (some (.ref f_Watching_source)))
    (i_Watching_source : PySem.W.typeIn K (.ref f_Watching_source) = some (.type "function"))
    (l_Watching_source : K.lookup f_Watching_source = some ⟨oc_Watching_source, od_Watching_source, .func (PySem.W.fnOf "source" "Watching.source" (defArgs s_Watching_source) (defBody s_Watching_source) (defScope s_Watching_source) .none kV_Watching_source dc_Watching_source pm_Watching_source an_Watching_source cd_Watching_source ct_Watching_source), sl_Watching_source⟩)
    (c_Watching_source : PySem.W.codeIn K cd_Watching_source "Watching.source" = true)
    (k_Watching_source : PySem.W.keepIn K (.ref f_Watching_source) = true)
    (a_Watching_watched : PySem.W.findIn K (.ref C_Watching) "watched" = some (some (.ref f_Watching_watched)))
    (i_Watching_watched : PySem.W.typeIn K (.ref f_Watching_watched) = some (.type "function"))
    (l_Watching_watched : K.lookup f_Watching_watched = some ⟨oc_Watching_watched, od_Watching_watched, .func (PySem.W.fnOf "watched" "Watching.watched" (defArgs s_Watching_watched) (defBody s_Watching_watched) (defScope s_Watching_watched) .none kV_Watching_watched dc_Watching_watched pm_Watching_watched an_Watching_watched cd_Watching_watched ct_Watching_watched), sl_Watching_watched⟩)
    (c_Watching_watched : PySem.W.codeIn K cd_Watching_watched "Watching.watched" = true)
    (k_Watching_watched : PySem.W.keepIn K (.ref f_Watching_watched) = true)
    (a_Watching_propagate : PySem.W.findIn K (.ref C_Watching) "propagate" = some (some (.ref f_Watching_propagate)))
    (i_Watching_propagate : PySem.W.typeIn K (.ref f_Watching_propagate) = some (.type "function"))
    (l_Watching_propagate : K.lookup f_Watching_propagate = some ⟨oc_Watching_propagate, od_Watching_propagate, .func (PySem.W.fnOf "propagate" "Watching.propagate" (defArgs s_Watching_propagate) (defBody s_Watching_propagate) (defScope s_Watching_propagate) .none kV_Watching_propagate dc_Watching_propagate pm_Watching_propagate an_Watching_propagate cd_Watching_propagate ct_Watching_propagate), sl_Watching_propagate⟩)
    (c_Watching_propagate : PySem.W.codeIn K cd_Watching_propagate "Watching.propagate" = true)
    (k_Watching_propagate : PySem.W.keepIn K (.ref f_Watching_propagate) = true)
    (a_Watching_forget : PySem.W.findIn K (.ref C_Watching) "forget" = some (some (.ref f_Watching_forget)))
    (i_Watching_forget : PySem.W.typeIn K (.ref f_Watching_forget) = some (.type "function"))
    (l_Watching_forget : K.lookup f_Watching_forget = some ⟨oc_Watching_forget, od_Watching_forget, .func (PySem.W.fnOf "forget" "Watching.forget" (defArgs s_Watching_forget) (defBody s_Watching_forget) (defScope s_Watching_forget) .none kV_Watching_forget dc_Watching_forget pm_Watching_forget an_Watching_forget cd_Watching_forget ct_Watching_forget), sl_Watching_forget⟩)
    (c_Watching_forget : PySem.W.codeIn K cd_Watching_forget "Watching.forget" = true)
    (k_Watching_forget : PySem.W.keepIn K (.ref f_Watching_forget) = true)
    (a_Watching_size : PySem.W.findIn K (.ref C_Watching) "size" = some (some (.ref f_Watching_size)))
    (i_Watching_size : PySem.W.typeIn K (.ref f_Watching_size) = some (.type "function"))
    (l_Watching_size : K.lookup f_Watching_size = some ⟨oc_Watching_size, od_Watching_size, .func (PySem.W.fnOf "size" "Watching.size" (defArgs s_Watching_size) (defBody s_Watching_size) (defScope s_Watching_size) .none kV_Watching_size dc_Watching_size pm_Watching_size an_Watching_size cd_Watching_size ct_Watching_size), sl_Watching_size⟩)
    (c_Watching_size : PySem.W.codeIn K cd_Watching_size "Watching.size" = true)
    (k_Watching_size : PySem.W.keepIn K (.ref f_Watching_size) = true)
    (a_Watching_best_watched : PySem.W.findIn K (.ref C_Watching) "_best_watched" = some (some (.ref f_Watching_best_watched)))
    (i_Watching_best_watched : PySem.W.typeIn K (.ref f_Watching_best_watched) = some (.type "function"))
    (l_Watching_best_watched : K.lookup f_Watching_best_watched = some ⟨oc_Watching_best_watched, od_Watching_best_watched, .func (PySem.W.fnOf "_best_watched" "Watching._best_watched" (defArgs s_Watching_best_watched) (defBody s_Watching_best_watched) (defScope s_Watching_best_watched) .none kV_Watching_best_watched dc_Watching_best_watched pm_Watching_best_watched an_Watching_best_watched cd_Watching_best_watched ct_Watching_best_watched), sl_Watching_best_watched⟩)
    (c_Watching_best_watched : PySem.W.codeIn K cd_Watching_best_watched "Watching._best_watched" = true)
    (k_Watching_best_watched : PySem.W.keepIn K (.ref f_Watching_best_watched) = true)
    (a_Watching_rank : PySem.W.findIn K (.ref C_Watching) "_rank" = some (some (.ref f_Watching_rank)))
    (i_Watching_rank : PySem.W.typeIn K (.ref f_Watching_rank) = some (.type "function"))
    (l_Watching_rank : K.lookup f_Watching_rank = some ⟨oc_Watching_rank, od_Watching_rank, .func (PySem.W.fnOf "_rank" "Watching._rank" (defArgs s_Watching_rank) (defBody s_Watching_rank) (defScope s_Watching_rank) .none kV_Watching_rank dc_Watching_rank pm_Watching_rank an_Watching_rank cd_Watching_rank ct_Watching_rank), sl_Watching_rank⟩)
    (c_Watching_rank : PySem.W.codeIn K cd_Watching_rank "Watching._rank" = true)
    (k_Watching_rank : PySem.W.keepIn K (.ref f_Watching_rank) = true)
    (a_Watching_look_at_fresh : PySem.W.findIn K (.ref C_Watching) "_look_at_fresh" = some (some (.ref f_Watching_look_at_fresh)))
    (i_Watching_look_at_fresh : PySem.W.typeIn K (.ref f_Watching_look_at_fresh) = some (.type "function"))
    (l_Watching_look_at_fresh : K.lookup f_Watching_look_at_fresh = some ⟨oc_Watching_look_at_fresh, od_Watching_look_at_fresh, .func (PySem.W.fnOf "_look_at_fresh" "Watching._look_at_fresh" (defArgs s_Watching_look_at_fresh) (defBody s_Watching_look_at_fresh) (defScope s_Watching_look_at_fresh) .none kV_Watching_look_at_fresh dc_Watching_look_at_fresh pm_Watching_look_at_fresh an_Watching_look_at_fresh cd_Watching_look_at_fresh ct_Watching_look_at_fresh), sl_Watching_look_at_fresh⟩)
    (c_Watching_look_at_fresh : PySem.W.codeIn K cd_Watching_look_at_fresh "Watching._look_at_fresh" = true)
    (k_Watching_look_at_fresh : PySem.W.keepIn K (.ref f_Watching_look_at_fresh) = true)
    (a_Watching_is_false_or_forces : PySem.W.findIn K (.ref C_Watching) "_is_false_or_forces" = some (some (.ref f_Watching_is_false_or_forces)))
    (i_Watching_is_false_or_forces : PySem.W.typeIn K (.ref f_Watching_is_false_or_forces) = some (.type "function"))
    (l_Watching_is_false_or_forces : K.lookup f_Watching_is_false_or_forces = some ⟨oc_Watching_is_false_or_forces, od_Watching_is_false_or_forces, .func (PySem.W.fnOf "_is_false_or_forces" "Watching._is_false_or_forces" (defArgs s_Watching_is_false_or_forces) (defBody s_Watching_is_false_or_forces) (defScope s_Watching_is_false_or_forces) .none kV_Watching_is_false_or_forces dc_Watching_is_false_or_forces pm_Watching_is_false_or_forces an_Watching_is_false_or_forces cd_Watching_is_false_or_forces ct_Watching_is_false_or_forces), sl_Watching_is_false_or_forces⟩)
    (c_Watching_is_false_or_forces : PySem.W.codeIn K cd_Watching_is_false_or_forces "Watching._is_false_or_forces" = true)
    (k_Watching_is_false_or_forces : PySem.W.keepIn K (.ref f_Watching_is_false_or_forces) = true)
    (a_Watching_visit : PySem.W.findIn K (.ref C_Watching) "_visit" = some (some (.ref f_Watching_visit)))
    (i_Watching_visit : PySem.W.typeIn K (.ref f_Watching_visit) = some (.type "function"))
    (l_Watching_visit : K.lookup f_Watching_visit = some ⟨oc_Watching_visit, od_Watching_visit, .func (PySem.W.fnOf "_visit" "Watching._visit" (defArgs s_Watching_visit) (defBody s_Watching_visit) (defScope s_Watching_visit) .none kV_Watching_visit dc_Watching_visit pm_Watching_visit an_Watching_visit cd_Watching_visit ct_Watching_visit), sl_Watching_visit⟩)
    (c_Watching_visit : PySem.W.codeIn K cd_Watching_visit "Watching._visit" = true)
    (k_Watching_visit : PySem.W.keepIn K (.ref f_Watching_visit) = true)
    (a_Watching_other : PySem.W.findIn K (.ref C_Watching) "_other" = some (some (.ref f_Watching_other)))
    (i_Watching_other : PySem.W.typeIn K (.ref f_Watching_other) = some (.type "function"))
    (l_Watching_other : K.lookup f_Watching_other = some ⟨oc_Watching_other, od_Watching_other, .func (PySem.W.fnOf "_other" "Watching._other" (defArgs s_Watching_other) (defBody s_Watching_other) (defScope s_Watching_other) .none kV_Watching_other dc_Watching_other pm_Watching_other an_Watching_other cd_Watching_other ct_Watching_other), sl_Watching_other⟩)
    (c_Watching_other : PySem.W.codeIn K cd_Watching_other "Watching._other" = true)
    (k_Watching_other : PySem.W.keepIn K (.ref f_Watching_other) = true)
    (a_Watching_moves : PySem.W.findIn K (.ref C_Watching) "_moves" = some (some (.ref f_Watching_moves)))
    (i_Watching_moves : PySem.W.typeIn K (.ref f_Watching_moves) = some (.type "function"))
    (l_Watching_moves : K.lookup f_Watching_moves = some ⟨oc_Watching_moves, od_Watching_moves, .func (PySem.W.fnOf "_moves" "Watching._moves" (defArgs s_Watching_moves) (defBody s_Watching_moves) (defScope s_Watching_moves) .none kV_Watching_moves dc_Watching_moves pm_Watching_moves an_Watching_moves cd_Watching_moves ct_Watching_moves), sl_Watching_moves⟩)
    (c_Watching_moves : PySem.W.codeIn K cd_Watching_moves "Watching._moves" = true)
    (k_Watching_moves : PySem.W.keepIn K (.ref f_Watching_moves) = true)
    (a_Watching_clash_or_force : PySem.W.findIn K (.ref C_Watching) "_clash_or_force" = some (some (.ref f_Watching_clash_or_force)))
    (i_Watching_clash_or_force : PySem.W.typeIn K (.ref f_Watching_clash_or_force) = some (.type "function"))
    (l_Watching_clash_or_force : K.lookup f_Watching_clash_or_force = some ⟨oc_Watching_clash_or_force, od_Watching_clash_or_force, .func (PySem.W.fnOf "_clash_or_force" "Watching._clash_or_force" (defArgs s_Watching_clash_or_force) (defBody s_Watching_clash_or_force) (defScope s_Watching_clash_or_force) .none kV_Watching_clash_or_force dc_Watching_clash_or_force pm_Watching_clash_or_force an_Watching_clash_or_force cd_Watching_clash_or_force ct_Watching_clash_or_force), sl_Watching_clash_or_force⟩)
    (c_Watching_clash_or_force : PySem.W.codeIn K cd_Watching_clash_or_force "Watching._clash_or_force" = true)
    (k_Watching_clash_or_force : PySem.W.keepIn K (.ref f_Watching_clash_or_force) = true)
    (a_BadLiteral_init : PySem.W.findIn K (.ref C_BadLiteral) "__init__" = some (some (.ref f_BadLiteral_init)))
    (i_BadLiteral_init : PySem.W.typeIn K (.ref f_BadLiteral_init) = some (.type "function"))
    (l_BadLiteral_init : K.lookup f_BadLiteral_init = some ⟨oc_BadLiteral_init, od_BadLiteral_init, .func (PySem.W.fnOf "__init__" "BadLiteral.__init__" (defArgs s_BadLiteral_init) (defBody s_BadLiteral_init) (defScope s_BadLiteral_init) .none kV_BadLiteral_init dc_BadLiteral_init pm_BadLiteral_init an_BadLiteral_init cd_BadLiteral_init ct_BadLiteral_init), sl_BadLiteral_init⟩)
    (c_BadLiteral_init : PySem.W.codeIn K cd_BadLiteral_init "BadLiteral.__init__" = true)
    (k_BadLiteral_init : PySem.W.keepIn K (.ref f_BadLiteral_init) = true)
    (a_Trail_init : PySem.W.findIn K (.ref C_Trail) "__init__" = some (some (.ref f_Trail_init)))
    (i_Trail_init : PySem.W.typeIn K (.ref f_Trail_init) = some (.type "function"))
    (l_Trail_init : K.lookup f_Trail_init = some ⟨oc_Trail_init, od_Trail_init, .func (PySem.W.fnOf "__init__" "Trail.__init__" (defArgs s_Trail_init) (defBody s_Trail_init) (defScope s_Trail_init) .none kV_Trail_init dc_Trail_init pm_Trail_init an_Trail_init cd_Trail_init ct_Trail_init), sl_Trail_init⟩)
    (c_Trail_init : PySem.W.codeIn K cd_Trail_init "Trail.__init__" = true)
    (k_Trail_init : PySem.W.keepIn K (.ref f_Trail_init) = true)
    (a_Trail_choose : PySem.W.findIn K (.ref C_Trail) "choose" = some (some (.ref f_Trail_choose)))
    (i_Trail_choose : PySem.W.typeIn K (.ref f_Trail_choose) = some (.type "function"))
    (l_Trail_choose : K.lookup f_Trail_choose = some ⟨oc_Trail_choose, od_Trail_choose, .func (PySem.W.fnOf "choose" "Trail.choose" (defArgs s_Trail_choose) (defBody s_Trail_choose) (defScope s_Trail_choose) .none kV_Trail_choose dc_Trail_choose pm_Trail_choose an_Trail_choose cd_Trail_choose ct_Trail_choose), sl_Trail_choose⟩)
    (c_Trail_choose : PySem.W.codeIn K cd_Trail_choose "Trail.choose" = true)
    (k_Trail_choose : PySem.W.keepIn K (.ref f_Trail_choose) = true)
    (a_Trail_force : PySem.W.findIn K (.ref C_Trail) "force" = some (some (.ref f_Trail_force)))
    (i_Trail_force : PySem.W.typeIn K (.ref f_Trail_force) = some (.type "function"))
    (l_Trail_force : K.lookup f_Trail_force = some ⟨oc_Trail_force, od_Trail_force, .func (PySem.W.fnOf "force" "Trail.force" (defArgs s_Trail_force) (defBody s_Trail_force) (defScope s_Trail_force) .none kV_Trail_force dc_Trail_force pm_Trail_force an_Trail_force cd_Trail_force ct_Trail_force), sl_Trail_force⟩)
    (c_Trail_force : PySem.W.codeIn K cd_Trail_force "Trail.force" = true)
    (k_Trail_force : PySem.W.keepIn K (.ref f_Trail_force) = true)
    (a_Trail_back : PySem.W.findIn K (.ref C_Trail) "back" = some (some (.ref f_Trail_back)))
    (i_Trail_back : PySem.W.typeIn K (.ref f_Trail_back) = some (.type "function"))
    (l_Trail_back : K.lookup f_Trail_back = some ⟨oc_Trail_back, od_Trail_back, .func (PySem.W.fnOf "back" "Trail.back" (defArgs s_Trail_back) (defBody s_Trail_back) (defScope s_Trail_back) .none kV_Trail_back dc_Trail_back pm_Trail_back an_Trail_back cd_Trail_back ct_Trail_back), sl_Trail_back⟩)
    (c_Trail_back : PySem.W.codeIn K cd_Trail_back "Trail.back" = true)
    (k_Trail_back : PySem.W.keepIn K (.ref f_Trail_back) = true)
    (a_Trail_value : PySem.W.findIn K (.ref C_Trail) "value" = some (some (.ref f_Trail_value)))
    (i_Trail_value : PySem.W.typeIn K (.ref f_Trail_value) = some (.type "function"))
    (l_Trail_value : K.lookup f_Trail_value = some ⟨oc_Trail_value, od_Trail_value, .func (PySem.W.fnOf "value" "Trail.value" (defArgs s_Trail_value) (defBody s_Trail_value) (defScope s_Trail_value) .none kV_Trail_value dc_Trail_value pm_Trail_value an_Trail_value cd_Trail_value ct_Trail_value), sl_Trail_value⟩)
    (c_Trail_value : PySem.W.codeIn K cd_Trail_value "Trail.value" = true)
    (k_Trail_value : PySem.W.keepIn K (.ref f_Trail_value) = true)
    (a_Trail_level_of : PySem.W.findIn K (.ref C_Trail) "level_of" = some (some (.ref f_Trail_level_of)))
    (i_Trail_level_of : PySem.W.typeIn K (.ref f_Trail_level_of) = some (.type "function"))
    (l_Trail_level_of : K.lookup f_Trail_level_of = some ⟨oc_Trail_level_of, od_Trail_level_of, .func (PySem.W.fnOf "level_of" "Trail.level_of" (defArgs s_Trail_level_of) (defBody s_Trail_level_of) (defScope s_Trail_level_of) .none kV_Trail_level_of dc_Trail_level_of pm_Trail_level_of an_Trail_level_of cd_Trail_level_of ct_Trail_level_of), sl_Trail_level_of⟩)
    (c_Trail_level_of : PySem.W.codeIn K cd_Trail_level_of "Trail.level_of" = true)
    (k_Trail_level_of : PySem.W.keepIn K (.ref f_Trail_level_of) = true)
    (a_Trail_reason_of : PySem.W.findIn K (.ref C_Trail) "reason_of" = some (some (.ref f_Trail_reason_of)))
    (i_Trail_reason_of : PySem.W.typeIn K (.ref f_Trail_reason_of) = some (.type "function"))
    (l_Trail_reason_of : K.lookup f_Trail_reason_of = some ⟨oc_Trail_reason_of, od_Trail_reason_of, .func (PySem.W.fnOf "reason_of" "Trail.reason_of" (defArgs s_Trail_reason_of) (defBody s_Trail_reason_of) (defScope s_Trail_reason_of) .none kV_Trail_reason_of dc_Trail_reason_of pm_Trail_reason_of an_Trail_reason_of cd_Trail_reason_of ct_Trail_reason_of), sl_Trail_reason_of⟩)
    (c_Trail_reason_of : PySem.W.codeIn K cd_Trail_reason_of "Trail.reason_of" = true)
    (k_Trail_reason_of : PySem.W.keepIn K (.ref f_Trail_reason_of) = true)
    (a_Trail_place_of : PySem.W.findIn K (.ref C_Trail) "place_of" = some (some (.ref f_Trail_place_of)))
    (i_Trail_place_of : PySem.W.typeIn K (.ref f_Trail_place_of) = some (.type "function"))
    (l_Trail_place_of : K.lookup f_Trail_place_of = some ⟨oc_Trail_place_of, od_Trail_place_of, .func (PySem.W.fnOf "place_of" "Trail.place_of" (defArgs s_Trail_place_of) (defBody s_Trail_place_of) (defScope s_Trail_place_of) .none kV_Trail_place_of dc_Trail_place_of pm_Trail_place_of an_Trail_place_of cd_Trail_place_of ct_Trail_place_of), sl_Trail_place_of⟩)
    (c_Trail_place_of : PySem.W.codeIn K cd_Trail_place_of "Trail.place_of" = true)
    (k_Trail_place_of : PySem.W.keepIn K (.ref f_Trail_place_of) = true)
    (a_Trail_literals : PySem.W.findIn K (.ref C_Trail) "literals" = some (some (.ref f_Trail_literals)))
    (i_Trail_literals : PySem.W.typeIn K (.ref f_Trail_literals) = some (.type "function"))
    (l_Trail_literals : K.lookup f_Trail_literals = some ⟨oc_Trail_literals, od_Trail_literals, .func (PySem.W.fnOf "literals" "Trail.literals" (defArgs s_Trail_literals) (defBody s_Trail_literals) (defScope s_Trail_literals) .none kV_Trail_literals dc_Trail_literals pm_Trail_literals an_Trail_literals cd_Trail_literals ct_Trail_literals), sl_Trail_literals⟩)
    (c_Trail_literals : PySem.W.codeIn K cd_Trail_literals "Trail.literals" = true)
    (k_Trail_literals : PySem.W.keepIn K (.ref f_Trail_literals) = true)
    (a_Trail_sizes : PySem.W.findIn K (.ref C_Trail) "sizes" = some (some (.ref f_Trail_sizes)))
    (i_Trail_sizes : PySem.W.typeIn K (.ref f_Trail_sizes) = some (.type "function"))
    (l_Trail_sizes : K.lookup f_Trail_sizes = some ⟨oc_Trail_sizes, od_Trail_sizes, .func (PySem.W.fnOf "sizes" "Trail.sizes" (defArgs s_Trail_sizes) (defBody s_Trail_sizes) (defScope s_Trail_sizes) .none kV_Trail_sizes dc_Trail_sizes pm_Trail_sizes an_Trail_sizes cd_Trail_sizes ct_Trail_sizes), sl_Trail_sizes⟩)
    (c_Trail_sizes : PySem.W.codeIn K cd_Trail_sizes "Trail.sizes" = true)
    (k_Trail_sizes : PySem.W.keepIn K (.ref f_Trail_sizes) = true)
    (a_Trail_depth : PySem.W.findIn K (.ref C_Trail) "depth" = some (some (.ref f_Trail_depth)))
    (i_Trail_depth : PySem.W.typeIn K (.ref f_Trail_depth) = some (.type "function"))
    (l_Trail_depth : K.lookup f_Trail_depth = some ⟨oc_Trail_depth, od_Trail_depth, .func (PySem.W.fnOf "depth" "Trail.depth" (defArgs s_Trail_depth) (defBody s_Trail_depth) (defScope s_Trail_depth) .none kV_Trail_depth dc_Trail_depth pm_Trail_depth an_Trail_depth cd_Trail_depth ct_Trail_depth), sl_Trail_depth⟩)
    (c_Trail_depth : PySem.W.codeIn K cd_Trail_depth "Trail.depth" = true)
    (k_Trail_depth : PySem.W.keepIn K (.ref f_Trail_depth) = true)
    (a_Trail_put_since : PySem.W.findIn K (.ref C_Trail) "put_since" = some (some (.ref f_Trail_put_since)))
    (i_Trail_put_since : PySem.W.typeIn K (.ref f_Trail_put_since) = some (.type "function"))
    (l_Trail_put_since : K.lookup f_Trail_put_since = some ⟨oc_Trail_put_since, od_Trail_put_since, .func (PySem.W.fnOf "put_since" "Trail.put_since" (defArgs s_Trail_put_since) (defBody s_Trail_put_since) (defScope s_Trail_put_since) .none kV_Trail_put_since dc_Trail_put_since pm_Trail_put_since an_Trail_put_since cd_Trail_put_since ct_Trail_put_since), sl_Trail_put_since⟩)
    (c_Trail_put_since : PySem.W.codeIn K cd_Trail_put_since "Trail.put_since" = true)
    (k_Trail_put_since : PySem.W.keepIn K (.ref f_Trail_put_since) = true)
    (a_Trail_contains : PySem.W.findIn K (.ref C_Trail) "__contains__" = some (some (.ref f_Trail_contains)))
    (i_Trail_contains : PySem.W.typeIn K (.ref f_Trail_contains) = some (.type "function"))
    (l_Trail_contains : K.lookup f_Trail_contains = some ⟨oc_Trail_contains, od_Trail_contains, .func (PySem.W.fnOf "__contains__" "Trail.__contains__" (defArgs s_Trail_contains) (defBody s_Trail_contains) (defScope s_Trail_contains) .none kV_Trail_contains dc_Trail_contains pm_Trail_contains an_Trail_contains cd_Trail_contains ct_Trail_contains), sl_Trail_contains⟩)
    (c_Trail_contains : PySem.W.codeIn K cd_Trail_contains "Trail.__contains__" = true)
    (k_Trail_contains : PySem.W.keepIn K (.ref f_Trail_contains) = true)
    (a_Trail_put : PySem.W.findIn K (.ref C_Trail) "_put" = some (some (.ref f_Trail_put)))
    (i_Trail_put : PySem.W.typeIn K (.ref f_Trail_put) = some (.type "function"))
    (l_Trail_put : K.lookup f_Trail_put = some ⟨oc_Trail_put, od_Trail_put, .func (PySem.W.fnOf "_put" "Trail._put" (defArgs s_Trail_put) (defBody s_Trail_put) (defScope s_Trail_put) .none kV_Trail_put dc_Trail_put pm_Trail_put an_Trail_put cd_Trail_put ct_Trail_put), sl_Trail_put⟩)
    (c_Trail_put : PySem.W.codeIn K cd_Trail_put "Trail._put" = true)
    (k_Trail_put : PySem.W.keepIn K (.ref f_Trail_put) = true)
    (a_Trail_refuse_unknown : PySem.W.findIn K (.ref C_Trail) "_refuse_unknown" = some (some (.ref f_Trail_refuse_unknown)))
    (i_Trail_refuse_unknown : PySem.W.typeIn K (.ref f_Trail_refuse_unknown) = some (.type "function"))
    (l_Trail_refuse_unknown : K.lookup f_Trail_refuse_unknown = some ⟨oc_Trail_refuse_unknown, od_Trail_refuse_unknown, .func (PySem.W.fnOf "_refuse_unknown" "Trail._refuse_unknown" (defArgs s_Trail_refuse_unknown) (defBody s_Trail_refuse_unknown) (defScope s_Trail_refuse_unknown) .none kV_Trail_refuse_unknown dc_Trail_refuse_unknown pm_Trail_refuse_unknown an_Trail_refuse_unknown cd_Trail_refuse_unknown ct_Trail_refuse_unknown), sl_Trail_refuse_unknown⟩)
    (c_Trail_refuse_unknown : PySem.W.codeIn K cd_Trail_refuse_unknown "Trail._refuse_unknown" = true)
    (k_Trail_refuse_unknown : PySem.W.keepIn K (.ref f_Trail_refuse_unknown) = true)
    (a_Trail_refuse_unless_open : PySem.W.findIn K (.ref C_Trail) "_refuse_unless_open" = some (some (.ref f_Trail_refuse_unless_open)))
    (i_Trail_refuse_unless_open : PySem.W.typeIn K (.ref f_Trail_refuse_unless_open) = some (.type "function"))
    (l_Trail_refuse_unless_open : K.lookup f_Trail_refuse_unless_open = some ⟨oc_Trail_refuse_unless_open, od_Trail_refuse_unless_open, .func (PySem.W.fnOf "_refuse_unless_open" "Trail._refuse_unless_open" (defArgs s_Trail_refuse_unless_open) (defBody s_Trail_refuse_unless_open) (defScope s_Trail_refuse_unless_open) .none kV_Trail_refuse_unless_open dc_Trail_refuse_unless_open pm_Trail_refuse_unless_open an_Trail_refuse_unless_open cd_Trail_refuse_unless_open ct_Trail_refuse_unless_open), sl_Trail_refuse_unless_open⟩)
    (c_Trail_refuse_unless_open : PySem.W.codeIn K cd_Trail_refuse_unless_open "Trail._refuse_unless_open" = true)
    (k_Trail_refuse_unless_open : PySem.W.keepIn K (.ref f_Trail_refuse_unless_open) = true)
    (pg_Trail : PySem.W.plainGet K C_Trail Str.empty = true)
    (hd_Trail : PySem.W.hasDictIn K C_Trail = true)
    (po_Trail : PySem.W.plainOver K C_Trail = true)
    (sa_Trail : PySem.W.findIn K (.ref C_Trail) "__setattr__" = some (some (.builtin "object.__setattr__")))
    (mk_Trail : PySem.W.makesIn K C_Trail = true)
    (kc_Trail : PySem.W.keepIn K (.ref C_Trail) = true)
    (nf_Trail__nodes : PySem.W.findIn K (.ref C_Trail) "_nodes" = some none)
    (nf_Trail__literals : PySem.W.findIn K (.ref C_Trail) "_literals" = some none)
    (nf_Trail__levels : PySem.W.findIn K (.ref C_Trail) "_levels" = some none)
    (nf_Trail__reasons : PySem.W.findIn K (.ref C_Trail) "_reasons" = some none)
    (nf_Trail__places : PySem.W.findIn K (.ref C_Trail) "_places" = some none)
    (nf_Trail__starts : PySem.W.findIn K (.ref C_Trail) "_starts" = some none)
    (nf_Trail__tickets : PySem.W.findIn K (.ref C_Trail) "_tickets" = some none)
    (nf_Trail__next_ticket : PySem.W.findIn K (.ref C_Trail) "_next_ticket" = some none)
    (pg_Watching : PySem.W.plainGet K C_Watching Str.empty = true)
    (hd_Watching : PySem.W.hasDictIn K C_Watching = true)
    (po_Watching : PySem.W.plainOver K C_Watching = true)
    (sa_Watching : PySem.W.findIn K (.ref C_Watching) "__setattr__" = some (some (.builtin "object.__setattr__")))
    (mk_Watching : PySem.W.makesIn K C_Watching = true)
    (kc_Watching : PySem.W.keepIn K (.ref C_Watching) = true)
    (nf_Watching__trail : PySem.W.findIn K (.ref C_Watching) "_trail" = some none)
    (nf_Watching__clauses : PySem.W.findIn K (.ref C_Watching) "_clauses" = some none)
    (nf_Watching__sources : PySem.W.findIn K (.ref C_Watching) "_sources" = some none)
    (nf_Watching__watched : PySem.W.findIn K (.ref C_Watching) "_watched" = some none)
    (nf_Watching__watchers : PySem.W.findIn K (.ref C_Watching) "_watchers" = some none)
    (nf_Watching__forgotten : PySem.W.findIn K (.ref C_Watching) "_forgotten" = some none)
    (nf_Watching__fresh : PySem.W.findIn K (.ref C_Watching) "_fresh" = some none)
    (nf_Watching__seen : PySem.W.findIn K (.ref C_Watching) "_seen" = some none)
    (rd_PaperError : PySem.W.readsIn K C_PaperError (.type "type") = true)
    (ga_PaperError : PySem.W.specialIn K (.ref C_PaperError) "__getattribute__" = some (some (.builtin "type.__getattribute__")))
    (vi_PaperError : PySem.W.findCls K (.ref C_PaperError) (.type "type") "__init__" = some (.val (.builtin "ValueError.__init__")))
    (xL_BadLiteral : K.lookup C_BadLiteral = some (excClassObj nm_BadLiteral q_BadLiteral C_BadLiteral N_BadLiteral bs_BadLiteral [.ref C_PaperError, .type "ValueError", .type "Exception", .type "BaseException", .type "object"] true sn_BadLiteral sub_BadLiteral ab_BadLiteral col_BadLiteral dd_BadLiteral m0_BadLiteral m1_BadLiteral m2_BadLiteral m3_BadLiteral m5_BadLiteral "ValueError.__new__"))
    (sa_BadLiteral : PySem.W.findIn K (.ref C_BadLiteral) "__setattr__" = some (some (.builtin "object.__setattr__")))
    (eC_BadLiteral : PySem.W.subIn K (.ref C_BadLiteral) (.type "BaseException") = some true)
    (tC_BadLiteral : PySem.W.typeIn K (.ref C_BadLiteral) = some (.type "type"))
    (kC_BadLiteral : PySem.W.keepIn K (.ref C_BadLiteral) = true)
    (hg_BadLiteral : PySem.W.findIn K (.ref C_BadLiteral) "__getattribute__" = some (some (.builtin "BaseException.__getattribute__")))
    (hk_BadLiteral : PySem.W.findIn K (.ref C_BadLiteral) "__getattr__" = some none)
    (hd_BadLiteral : PySem.W.hasDictIn K C_BadLiteral = true)
    (ha_BadLiteral : PySem.W.findIn K (.ref C_BadLiteral) "__class__" = some (some (.builtin "object.__class__")))
    (hm_BadLiteral : PySem.W.mroIn K C_BadLiteral (.type "object") = some true)
    (no_BadLiteral : PySem.W.findIn K (.ref C_BadLiteral) "literal" = some none)
    (x_hn : PySem.W.specialIn K (.builtin "object.__class__") "__get__" = some (some (.builtin "getset_descriptor.__get__")))
    (x_ht : PySem.W.takesIn K (.builtin "object.__class__") = some true)
    (e_BadLiteral_BadLiteral : PySem.W.exmOne K (.ref C_BadLiteral) (.ref C_BadLiteral) = some true)
    (e_BadLiteral_PaperError : PySem.W.exmOne K (.ref C_BadLiteral) (.ref C_PaperError) = some true)
    (k_BadLiteral_PaperError : PySem.W.kitOne K (.ref C_BadLiteral) (.ref C_PaperError) = some true)
    (k_BadLiteral_BadLiteral : PySem.W.kitOne K (.ref C_BadLiteral) (.ref C_BadLiteral) = some true)
    (k_BadLiteral_ValueError : PySem.W.kitOne K (.ref C_BadLiteral) (.type "ValueError") = some true)
    (e_bw : cd_Watching_best_watched = .ref c_bw) :
    ∃ fd : FuncData, (∀ (s : Shared) (v : Value), BindsTo s fd ⟨[v], []⟩ [("_law_script", v)]) ∧ ∀ base : Heap, K.In base → base.Ns mainGlobals mg → (∀ p ∈ [(c_bw, P_bw)], LamX.TabB base mg p.1 p.2) → FnOk l.prog w K mg base CX0 14 fa fd ["_law_script"] (spLaw K P_bw) := by
  have e := hfa.symm.trans (PySem.W.mg_of X G a_law)
  have e2 : f_law = fa := by
    cases e
    rfl
  subst e2
  subst e_bw
  let T : Txt K mg := {
    f_pool := f_pool, fd_pool := _, F_pool := fun_mk (st := s_pool) l_pool c_pool k_pool, b_pool := (fun_mk (st := s_pool) l_pool c_pool k_pool).binds (ps := ["_law_script", "_law_k"]) fun _ _ _ _ _ _ us hl => match us, hl with | [_, _], _ => rfl, g_pool := PySem.W.mg_of X G a_pool,
    f_take := f_take, fd_take := _, F_take := fun_mk (st := s_take) l_take c_take k_take, b_take := (fun_mk (st := s_take) l_take c_take k_take).binds (ps := ["_law_pool_here", "_law_size"]) fun _ _ _ _ _ _ us hl => match us, hl with | [_, _], _ => rfl, g_take := PySem.W.mg_of X G a_take,
    f_whole := f_whole, fd_whole := _, F_whole := fun_mk (st := s_whole) l_whole c_whole k_whole, b_whole := (fun_mk (st := s_whole) l_whole c_whole k_whole).binds (ps := ["_law_value"]) fun _ _ _ _ _ _ us hl => match us, hl with | [_], _ => rfl, g_whole := PySem.W.mg_of X G a_whole,
    f_alike := f_alike, fd_alike := _, F_alike := fun_mk (st := s_alike) l_alike c_alike k_alike, b_alike := (fun_mk (st := s_alike) l_alike c_alike k_alike).binds (ps := ["_law_actual", "_law_expected"]) fun _ _ _ _ _ _ us hl => match us, hl with | [_, _], _ => rfl, g_alike := PySem.W.mg_of X G a_alike,
    f_list := f_list, fd_list := _, F_list := fun_mk (st := s_list) l_list c_list k_list, b_list := (fun_mk (st := s_list) l_list c_list k_list).binds (ps := ["_law_actual", "_law_expected"]) fun _ _ _ _ _ _ us hl => match us, hl with | [_, _], _ => rfl, g_list := PySem.W.mg_of X G a_list,
    f_seat := f_seat, fd_seat := _, F_seat := fun_mk (st := s_seat) l_seat c_seat k_seat, b_seat := (fun_mk (st := s_seat) l_seat c_seat k_seat).binds (ps := ["_law_pool_here"]) fun _ _ _ _ _ _ us hl => match us, hl with | [_], _ => rfl, g_seat := PySem.W.mg_of X G a_seat,
    f_stranger := f_stranger, fd_stranger := _, F_stranger := fun_mk (st := s_stranger) l_stranger c_stranger k_stranger, b_stranger := (fun_mk (st := s_stranger) l_stranger c_stranger k_stranger).binds (ps := ["_law_pool_here", "_law_nodes"]) fun _ _ _ _ _ _ us hl => match us, hl with | [_, _], _ => rfl, g_stranger := PySem.W.mg_of X G a_stranger,
    f_clause := f_clause, fd_clause := _, F_clause := fun_mk (st := s_clause) l_clause c_clause k_clause, b_clause := (fun_mk (st := s_clause) l_clause c_clause k_clause).binds (ps := ["_law_pool_here", "_law_seat_here"]) fun _ _ _ _ _ _ us hl => match us, hl with | [_, _], _ => rfl, g_clause := PySem.W.mg_of X G a_clause,
    f_refused := f_refused, fd_refused := _, F_refused := fun_mk (st := s_refused) l_refused c_refused k_refused, b_refused := (fun_mk (st := s_refused) l_refused c_refused k_refused).binds (ps := ["_law_watching", "_law_clause_here", "_law_due"]) fun _ _ _ _ _ _ us hl => match us, hl with | [_, _, _], _ => rfl, g_refused := PySem.W.mg_of X G a_refused,
    f_refused_base := f_refused_base, fd_refused_base := _, F_refused_base := fun_mk (st := s_refused_base) l_refused_base c_refused_base k_refused_base, b_refused_base := (fun_mk (st := s_refused_base) l_refused_base c_refused_base k_refused_base).binds (ps := ["_law_watching", "_law_clause_here", "_law_due"]) fun _ _ _ _ _ _ us hl => match us, hl with | [_, _, _], _ => rfl, g_refused_base := PySem.W.mg_of X G a_refused_base,
    f_bad_put := f_bad_put, fd_bad_put := _, F_bad_put := fun_mk (st := s_bad_put) l_bad_put c_bad_put k_bad_put, b_bad_put := (fun_mk (st := s_bad_put) l_bad_put c_bad_put k_bad_put).binds (ps := ["_law_pool_here", "_law_seat_here"]) fun _ _ _ _ _ _ us hl => match us, hl with | [_, _], _ => rfl, g_bad_put := PySem.W.mg_of X G a_bad_put,
    f_watched := f_watched, fd_watched := _, F_watched := fun_mk (st := s_watched) l_watched c_watched k_watched, b_watched := (fun_mk (st := s_watched) l_watched c_watched k_watched).binds (ps := ["_law_seat_here", "_law_number"]) fun _ _ _ _ _ _ us hl => match us, hl with | [_, _], _ => rfl, g_watched := PySem.W.mg_of X G a_watched,
    f_put := f_put, fd_put := _, F_put := fun_mk (st := s_put) l_put c_put k_put, b_put := (fun_mk (st := s_put) l_put c_put k_put).binds (ps := ["_law_pool_here", "_law_seat_here"]) fun _ _ _ _ _ _ us hl => match us, hl with | [_, _], _ => rfl, g_put := PySem.W.mg_of X G a_put,
    f_depth := f_depth, fd_depth := _, F_depth := fun_mk (st := s_depth) l_depth c_depth k_depth, b_depth := (fun_mk (st := s_depth) l_depth c_depth k_depth).binds (ps := ["_law_seat_here"]) fun _ _ _ _ _ _ us hl => match us, hl with | [_], _ => rfl, g_depth := PySem.W.mg_of X G a_depth,
    f_stands := f_stands, fd_stands := _, F_stands := fun_mk (st := s_stands) l_stands c_stands k_stands, b_stands := (fun_mk (st := s_stands) l_stands c_stands k_stands).binds (ps := ["_law_seat_here"]) fun _ _ _ _ _ _ us hl => match us, hl with | [_], _ => rfl, g_stands := PySem.W.mg_of X G a_stands,
    f_back := f_back, fd_back := _, F_back := fun_mk (st := s_back) l_back c_back k_back, b_back := (fun_mk (st := s_back) l_back c_back k_back).binds (ps := ["_law_seat_here", "_law_level"]) fun _ _ _ _ _ _ us hl => match us, hl with | [_, _], _ => rfl, g_back := PySem.W.mg_of X G a_back,
    f_grown := f_grown, fd_grown := _, F_grown := fun_mk (st := s_grown) l_grown c_grown k_grown, b_grown := (fun_mk (st := s_grown) l_grown c_grown k_grown).binds (ps := ["_law_seat_here"]) fun _ _ _ _ _ _ us hl => match us, hl with | [_], _ => rfl, g_grown := PySem.W.mg_of X G a_grown,
    f_closure := f_closure, fd_closure := _, F_closure := fun_mk (st := s_closure) l_closure c_closure k_closure, b_closure := (fun_mk (st := s_closure) l_closure c_closure k_closure).binds (ps := ["_law_seat_here"]) fun _ _ _ _ _ _ us hl => match us, hl with | [_], _ => rfl, g_closure := PySem.W.mg_of X G a_closure,
    f_propagates := f_propagates, fd_propagates := _, F_propagates := fun_mk (st := s_propagates) l_propagates c_propagates k_propagates, b_propagates := (fun_mk (st := s_propagates) l_propagates c_propagates k_propagates).binds (ps := ["_law_seat_here"]) fun _ _ _ _ _ _ us hl => match us, hl with | [_], _ => rfl, g_propagates := PySem.W.mg_of X G a_propagates,
    f_open := f_open, fd_open := _, F_open := fun_mk (st := s_open) l_open c_open k_open, b_open := (fun_mk (st := s_open) l_open c_open k_open).binds (ps := ["_law_pool_here", "_law_seat_here"]) fun _ _ _ _ _ _ us hl => match us, hl with | [_, _], _ => rfl, g_open := PySem.W.mg_of X G a_open,
    f_forget := f_forget, fd_forget := _, F_forget := fun_mk (st := s_forget) l_forget c_forget k_forget, b_forget := (fun_mk (st := s_forget) l_forget c_forget k_forget).binds (ps := ["_law_pool_here", "_law_seat_here"]) fun _ _ _ _ _ _ us hl => match us, hl with | [_, _], _ => rfl, g_forget := PySem.W.mg_of X G a_forget,
    f_lot := f_lot, fd_lot := _, F_lot := fun_mk (st := s_lot) l_lot c_lot k_lot, b_lot := (fun_mk (st := s_lot) l_lot c_lot k_lot).binds (ps := ["_law_pool_here", "_law_seat_here", "_law_many"]) fun _ _ _ _ _ _ us hl => match us, hl with | [_, _, _], _ => rfl, g_lot := PySem.W.mg_of X G a_lot,
    f_deed := f_deed, fd_deed := _, F_deed := fun_mk (st := s_deed) l_deed c_deed k_deed, b_deed := (fun_mk (st := s_deed) l_deed c_deed k_deed).binds (ps := ["_law_pool_here", "_law_seat_here"]) fun _ _ _ _ _ _ us hl => match us, hl with | [_, _], _ => rfl, g_deed := PySem.W.mg_of X G a_deed,
    f_kept := f_kept, fd_kept := _, F_kept := fun_mk (st := s_kept) l_kept c_kept k_kept, b_kept := (fun_mk (st := s_kept) l_kept c_kept k_kept).binds (ps := ["_law_seat_here"]) fun _ _ _ _ _ _ us hl => match us, hl with | [_], _ => rfl, g_kept := PySem.W.mg_of X G a_kept,
    f_law := f_law, fd_law := _, F_law := fun_mk (st := s_law) l_law c_law k_law, b_law := (fun_mk (st := s_law) l_law c_law k_law).binds (ps := ["_law_script"]) fun _ _ _ _ _ _ us hl => match us, hl with | [_], _ => rfl, g_law := PySem.W.mg_of X G a_law,
    m_len := PySem.W.mg_none_of X G m_len,
    m_int := PySem.W.mg_none_of X G m_int,
    m_abs := PySem.W.mg_none_of X G m_abs,
    m_min := PySem.W.mg_none_of X G m_min,
    m_max := PySem.W.mg_none_of X G m_max,
    m_isinstance := PySem.W.mg_none_of X G m_isinstance,
    m_range := PySem.W.mg_none_of X G m_range,
    m_bool := PySem.W.mg_none_of X G m_bool,
    m_list := PySem.W.mg_none_of X G m_list,
    m_tuple := PySem.W.mg_none_of X G m_tuple,
    m_sorted := PySem.W.mg_none_of X G m_sorted,
    m_enumerate := PySem.W.mg_none_of X G m_enumerate,
    m_zip := PySem.W.mg_none_of X G m_zip,
    m_ValueError := PySem.W.mg_none_of X G m_ValueError,
    C_BadLiteral := C_BadLiteral, c_BadLiteral := PySem.W.mg_of X G n_BadLiteral,
    C_PaperError := C_PaperError, c_PaperError := PySem.W.mg_of X G n_PaperError,
    f_Watching_init := f_Watching_init, fd_Watching_init := _, F_Watching_init := fun_mk (st := s_Watching_init) l_Watching_init c_Watching_init k_Watching_init, b_Watching_init := (fun_mk (st := s_Watching_init) l_Watching_init c_Watching_init k_Watching_init).binds (ps := ["self", "trail"]) fun _ _ _ _ _ _ us hl => match us, hl with | [_, _], _ => rfl,
    f_Watching_put := f_Watching_put, fd_Watching_put := _, F_Watching_put := fun_mk (st := s_Watching_put) l_Watching_put c_Watching_put k_Watching_put, b_Watching_put := (fun_mk (st := s_Watching_put) l_Watching_put c_Watching_put k_Watching_put).binds (ps := ["self", "clause", "source"]) fun _ _ _ _ _ _ us hl => match us, hl with | [_, _, _], _ => rfl,
    f_Watching_clause := f_Watching_clause, fd_Watching_clause := _, F_Watching_clause := fun_mk (st := s_Watching_clause) l_Watching_clause c_Watching_clause k_Watching_clause, b_Watching_clause := (fun_mk (st := s_Watching_clause) l_Watching_clause c_Watching_clause k_Watching_clause).binds (ps := ["self", "number"]) fun _ _ _ _ _ _ us hl => match us, hl with | [_, _], _ => rfl,
    f_Watching_source := f_Watching_source, fd_Watching_source := _, F_Watching_source := fun_mk (st := s_Watching_source) l_Watching_source c_Watching_source k_Watching_source, b_Watching_source := (fun_mk (st := s_Watching_source) l_Watching_source c_Watching_source k_Watching_source).binds (ps := ["self", "number"]) fun _ _ _ _ _ _ us hl => match us, hl with | [_, _], _ => rfl,
    f_Watching_watched := f_Watching_watched, fd_Watching_watched := _, F_Watching_watched := fun_mk (st := s_Watching_watched) l_Watching_watched c_Watching_watched k_Watching_watched, b_Watching_watched := (fun_mk (st := s_Watching_watched) l_Watching_watched c_Watching_watched k_Watching_watched).binds (ps := ["self", "number"]) fun _ _ _ _ _ _ us hl => match us, hl with | [_, _], _ => rfl,
    f_Watching_propagate := f_Watching_propagate, fd_Watching_propagate := _, F_Watching_propagate := fun_mk (st := s_Watching_propagate) l_Watching_propagate c_Watching_propagate k_Watching_propagate, b_Watching_propagate := (fun_mk (st := s_Watching_propagate) l_Watching_propagate c_Watching_propagate k_Watching_propagate).binds (ps := ["self"]) fun _ _ _ _ _ _ us hl => match us, hl with | [_], _ => rfl,
    f_Watching_forget := f_Watching_forget, fd_Watching_forget := _, F_Watching_forget := fun_mk (st := s_Watching_forget) l_Watching_forget c_Watching_forget k_Watching_forget, b_Watching_forget := (fun_mk (st := s_Watching_forget) l_Watching_forget c_Watching_forget k_Watching_forget).binds (ps := ["self", "number"]) fun _ _ _ _ _ _ us hl => match us, hl with | [_, _], _ => rfl,
    f_Watching_size := f_Watching_size, fd_Watching_size := _, F_Watching_size := fun_mk (st := s_Watching_size) l_Watching_size c_Watching_size k_Watching_size, b_Watching_size := (fun_mk (st := s_Watching_size) l_Watching_size c_Watching_size k_Watching_size).binds (ps := ["self"]) fun _ _ _ _ _ _ us hl => match us, hl with | [_], _ => rfl,
    f_Watching_best_watched := f_Watching_best_watched, fd_Watching_best_watched := _, F_Watching_best_watched := fun_mk (st := s_Watching_best_watched) l_Watching_best_watched c_Watching_best_watched k_Watching_best_watched, b_Watching_best_watched := (fun_mk (st := s_Watching_best_watched) l_Watching_best_watched c_Watching_best_watched k_Watching_best_watched).binds (ps := ["self", "clause"]) fun _ _ _ _ _ _ us hl => match us, hl with | [_, _], _ => rfl,
    f_Watching_rank := f_Watching_rank, fd_Watching_rank := _, F_Watching_rank := fun_mk (st := s_Watching_rank) l_Watching_rank c_Watching_rank k_Watching_rank, b_Watching_rank := (fun_mk (st := s_Watching_rank) l_Watching_rank c_Watching_rank k_Watching_rank).binds (ps := ["self", "literal"]) fun _ _ _ _ _ _ us hl => match us, hl with | [_, _], _ => rfl,
    f_Watching_look_at_fresh := f_Watching_look_at_fresh, fd_Watching_look_at_fresh := _, F_Watching_look_at_fresh := fun_mk (st := s_Watching_look_at_fresh) l_Watching_look_at_fresh c_Watching_look_at_fresh k_Watching_look_at_fresh, b_Watching_look_at_fresh := (fun_mk (st := s_Watching_look_at_fresh) l_Watching_look_at_fresh c_Watching_look_at_fresh k_Watching_look_at_fresh).binds (ps := ["self"]) fun _ _ _ _ _ _ us hl => match us, hl with | [_], _ => rfl,
    f_Watching_is_false_or_forces := f_Watching_is_false_or_forces, fd_Watching_is_false_or_forces := _, F_Watching_is_false_or_forces := fun_mk (st := s_Watching_is_false_or_forces) l_Watching_is_false_or_forces c_Watching_is_false_or_forces k_Watching_is_false_or_forces, b_Watching_is_false_or_forces := (fun_mk (st := s_Watching_is_false_or_forces) l_Watching_is_false_or_forces c_Watching_is_false_or_forces k_Watching_is_false_or_forces).binds (ps := ["self", "number"]) fun _ _ _ _ _ _ us hl => match us, hl with | [_, _], _ => rfl,
    f_Watching_visit := f_Watching_visit, fd_Watching_visit := _, F_Watching_visit := fun_mk (st := s_Watching_visit) l_Watching_visit c_Watching_visit k_Watching_visit, b_Watching_visit := (fun_mk (st := s_Watching_visit) l_Watching_visit c_Watching_visit k_Watching_visit).binds (ps := ["self", "literal"]) fun _ _ _ _ _ _ us hl => match us, hl with | [_, _], _ => rfl,
    f_Watching_other := f_Watching_other, fd_Watching_other := _, F_Watching_other := fun_mk (st := s_Watching_other) l_Watching_other c_Watching_other k_Watching_other, b_Watching_other := (fun_mk (st := s_Watching_other) l_Watching_other c_Watching_other k_Watching_other).binds (ps := ["self", "number", "literal"]) fun _ _ _ _ _ _ us hl => match us, hl with | [_, _, _], _ => rfl,
    f_Watching_moves := f_Watching_moves, fd_Watching_moves := _, F_Watching_moves := fun_mk (st := s_Watching_moves) l_Watching_moves c_Watching_moves k_Watching_moves, b_Watching_moves := (fun_mk (st := s_Watching_moves) l_Watching_moves c_Watching_moves k_Watching_moves).binds (ps := ["self", "number", "literal"]) fun _ _ _ _ _ _ us hl => match us, hl with | [_, _, _], _ => rfl,
    f_Watching_clash_or_force := f_Watching_clash_or_force, fd_Watching_clash_or_force := _, F_Watching_clash_or_force := fun_mk (st := s_Watching_clash_or_force) l_Watching_clash_or_force c_Watching_clash_or_force k_Watching_clash_or_force, b_Watching_clash_or_force := (fun_mk (st := s_Watching_clash_or_force) l_Watching_clash_or_force c_Watching_clash_or_force k_Watching_clash_or_force).binds (ps := ["self", "number", "literal"]) fun _ _ _ _ _ _ us hl => match us, hl with | [_, _, _], _ => rfl,
    f_BadLiteral_init := f_BadLiteral_init, fd_BadLiteral_init := _, F_BadLiteral_init := fun_mk (st := s_BadLiteral_init) l_BadLiteral_init c_BadLiteral_init k_BadLiteral_init, b_BadLiteral_init := (fun_mk (st := s_BadLiteral_init) l_BadLiteral_init c_BadLiteral_init k_BadLiteral_init).binds (ps := ["self", "literal"]) fun _ _ _ _ _ _ us hl => match us, hl with | [_, _], _ => rfl,
    f_Trail_init := f_Trail_init, fd_Trail_init := _, F_Trail_init := fun_mk (st := s_Trail_init) l_Trail_init c_Trail_init k_Trail_init, b_Trail_init := (fun_mk (st := s_Trail_init) l_Trail_init c_Trail_init k_Trail_init).binds (ps := ["self", "nodes"]) fun _ _ _ _ _ _ us hl => match us, hl with | [_, _], _ => rfl,
    f_Trail_choose := f_Trail_choose, fd_Trail_choose := _, F_Trail_choose := fun_mk (st := s_Trail_choose) l_Trail_choose c_Trail_choose k_Trail_choose, b_Trail_choose := (fun_mk (st := s_Trail_choose) l_Trail_choose c_Trail_choose k_Trail_choose).binds (ps := ["self", "literal"]) fun _ _ _ _ _ _ us hl => match us, hl with | [_, _], _ => rfl,
    f_Trail_force := f_Trail_force, fd_Trail_force := _, F_Trail_force := fun_mk (st := s_Trail_force) l_Trail_force c_Trail_force k_Trail_force, b_Trail_force := (fun_mk (st := s_Trail_force) l_Trail_force c_Trail_force k_Trail_force).binds (ps := ["self", "literal", "reason"]) fun _ _ _ _ _ _ us hl => match us, hl with | [_, _, _], _ => rfl,
    f_Trail_back := f_Trail_back, fd_Trail_back := _, F_Trail_back := fun_mk (st := s_Trail_back) l_Trail_back c_Trail_back k_Trail_back, b_Trail_back := (fun_mk (st := s_Trail_back) l_Trail_back c_Trail_back k_Trail_back).binds (ps := ["self", "level"]) fun _ _ _ _ _ _ us hl => match us, hl with | [_, _], _ => rfl,
    f_Trail_value := f_Trail_value, fd_Trail_value := _, F_Trail_value := fun_mk (st := s_Trail_value) l_Trail_value c_Trail_value k_Trail_value, b_Trail_value := (fun_mk (st := s_Trail_value) l_Trail_value c_Trail_value k_Trail_value).binds (ps := ["self", "literal"]) fun _ _ _ _ _ _ us hl => match us, hl with | [_, _], _ => rfl,
    f_Trail_level_of := f_Trail_level_of, fd_Trail_level_of := _, F_Trail_level_of := fun_mk (st := s_Trail_level_of) l_Trail_level_of c_Trail_level_of k_Trail_level_of, b_Trail_level_of := (fun_mk (st := s_Trail_level_of) l_Trail_level_of c_Trail_level_of k_Trail_level_of).binds (ps := ["self", "literal"]) fun _ _ _ _ _ _ us hl => match us, hl with | [_, _], _ => rfl,
    f_Trail_reason_of := f_Trail_reason_of, fd_Trail_reason_of := _, F_Trail_reason_of := fun_mk (st := s_Trail_reason_of) l_Trail_reason_of c_Trail_reason_of k_Trail_reason_of, b_Trail_reason_of := (fun_mk (st := s_Trail_reason_of) l_Trail_reason_of c_Trail_reason_of k_Trail_reason_of).binds (ps := ["self", "literal"]) fun _ _ _ _ _ _ us hl => match us, hl with | [_, _], _ => rfl,
    f_Trail_place_of := f_Trail_place_of, fd_Trail_place_of := _, F_Trail_place_of := fun_mk (st := s_Trail_place_of) l_Trail_place_of c_Trail_place_of k_Trail_place_of, b_Trail_place_of := (fun_mk (st := s_Trail_place_of) l_Trail_place_of c_Trail_place_of k_Trail_place_of).binds (ps := ["self", "literal"]) fun _ _ _ _ _ _ us hl => match us, hl with | [_, _], _ => rfl,
    f_Trail_literals := f_Trail_literals, fd_Trail_literals := _, F_Trail_literals := fun_mk (st := s_Trail_literals) l_Trail_literals c_Trail_literals k_Trail_literals, b_Trail_literals := (fun_mk (st := s_Trail_literals) l_Trail_literals c_Trail_literals k_Trail_literals).binds (ps := ["self"]) fun _ _ _ _ _ _ us hl => match us, hl with | [_], _ => rfl,
    f_Trail_sizes := f_Trail_sizes, fd_Trail_sizes := _, F_Trail_sizes := fun_mk (st := s_Trail_sizes) l_Trail_sizes c_Trail_sizes k_Trail_sizes, b_Trail_sizes := (fun_mk (st := s_Trail_sizes) l_Trail_sizes c_Trail_sizes k_Trail_sizes).binds (ps := ["self"]) fun _ _ _ _ _ _ us hl => match us, hl with | [_], _ => rfl,
    f_Trail_depth := f_Trail_depth, fd_Trail_depth := _, F_Trail_depth := fun_mk (st := s_Trail_depth) l_Trail_depth c_Trail_depth k_Trail_depth, b_Trail_depth := (fun_mk (st := s_Trail_depth) l_Trail_depth c_Trail_depth k_Trail_depth).binds (ps := ["self"]) fun _ _ _ _ _ _ us hl => match us, hl with | [_], _ => rfl,
    f_Trail_put_since := f_Trail_put_since, fd_Trail_put_since := _, F_Trail_put_since := fun_mk (st := s_Trail_put_since) l_Trail_put_since c_Trail_put_since k_Trail_put_since, b_Trail_put_since := (fun_mk (st := s_Trail_put_since) l_Trail_put_since c_Trail_put_since k_Trail_put_since).binds (ps := ["self", "ticket"]) fun _ _ _ _ _ _ us hl => match us, hl with | [_, _], _ => rfl,
    f_Trail_contains := f_Trail_contains, fd_Trail_contains := _, F_Trail_contains := fun_mk (st := s_Trail_contains) l_Trail_contains c_Trail_contains k_Trail_contains, b_Trail_contains := (fun_mk (st := s_Trail_contains) l_Trail_contains c_Trail_contains k_Trail_contains).binds (ps := ["self", "x"]) fun _ _ _ _ _ _ us hl => match us, hl with | [_, _], _ => rfl,
    f_Trail_put := f_Trail_put, fd_Trail_put := _, F_Trail_put := fun_mk (st := s_Trail_put) l_Trail_put c_Trail_put k_Trail_put, b_Trail_put := (fun_mk (st := s_Trail_put) l_Trail_put c_Trail_put k_Trail_put).binds (ps := ["self", "literal", "reason"]) fun _ _ _ _ _ _ us hl => match us, hl with | [_, _, _], _ => rfl,
    f_Trail_refuse_unknown := f_Trail_refuse_unknown, fd_Trail_refuse_unknown := _, F_Trail_refuse_unknown := fun_mk (st := s_Trail_refuse_unknown) l_Trail_refuse_unknown c_Trail_refuse_unknown k_Trail_refuse_unknown, b_Trail_refuse_unknown := (fun_mk (st := s_Trail_refuse_unknown) l_Trail_refuse_unknown c_Trail_refuse_unknown k_Trail_refuse_unknown).binds (ps := ["self", "literal"]) fun _ _ _ _ _ _ us hl => match us, hl with | [_, _], _ => rfl,
    f_Trail_refuse_unless_open := f_Trail_refuse_unless_open, fd_Trail_refuse_unless_open := _, F_Trail_refuse_unless_open := fun_mk (st := s_Trail_refuse_unless_open) l_Trail_refuse_unless_open c_Trail_refuse_unless_open k_Trail_refuse_unless_open, b_Trail_refuse_unless_open := (fun_mk (st := s_Trail_refuse_unless_open) l_Trail_refuse_unless_open c_Trail_refuse_unless_open k_Trail_refuse_unless_open).binds (ps := ["self", "literal"]) fun _ _ _ _ _ _ us hl => match us, hl with | [_, _], _ => rfl,
    C_Trail := C_Trail, c_Trail := PySem.W.mg_of X G n_Trail, cl_Trail := ⟨pg_Trail, hd_Trail, po_Trail, sa_Trail⟩, mk_Trail := ⟨mk_Trail, a_Trail_init, beq_iff_eq.mpr i_Trail_init, kc_Trail⟩,
    n_Trail__nodes := nf_Trail__nodes,
    n_Trail__literals := nf_Trail__literals,
    n_Trail__levels := nf_Trail__levels,
    n_Trail__reasons := nf_Trail__reasons,
    n_Trail__places := nf_Trail__places,
    n_Trail__starts := nf_Trail__starts,
    n_Trail__tickets := nf_Trail__tickets,
    n_Trail__next_ticket := nf_Trail__next_ticket,
    M_Trail_init := ⟨a_Trail_init, beq_iff_eq.mpr i_Trail_init, k_Trail_init⟩,
    M_Trail_choose := ⟨a_Trail_choose, beq_iff_eq.mpr i_Trail_choose, k_Trail_choose⟩,
    M_Trail_force := ⟨a_Trail_force, beq_iff_eq.mpr i_Trail_force, k_Trail_force⟩,
    M_Trail_back := ⟨a_Trail_back, beq_iff_eq.mpr i_Trail_back, k_Trail_back⟩,
    M_Trail_value := ⟨a_Trail_value, beq_iff_eq.mpr i_Trail_value, k_Trail_value⟩,
    M_Trail_level_of := ⟨a_Trail_level_of, beq_iff_eq.mpr i_Trail_level_of, k_Trail_level_of⟩,
    M_Trail_reason_of := ⟨a_Trail_reason_of, beq_iff_eq.mpr i_Trail_reason_of, k_Trail_reason_of⟩,
    M_Trail_place_of := ⟨a_Trail_place_of, beq_iff_eq.mpr i_Trail_place_of, k_Trail_place_of⟩,
    M_Trail_literals := ⟨a_Trail_literals, beq_iff_eq.mpr i_Trail_literals, k_Trail_literals⟩,
    M_Trail_sizes := ⟨a_Trail_sizes, beq_iff_eq.mpr i_Trail_sizes, k_Trail_sizes⟩,
    M_Trail_depth := ⟨a_Trail_depth, beq_iff_eq.mpr i_Trail_depth, k_Trail_depth⟩,
    M_Trail_put_since := ⟨a_Trail_put_since, beq_iff_eq.mpr i_Trail_put_since, k_Trail_put_since⟩,
    M_Trail_contains := ⟨a_Trail_contains, beq_iff_eq.mpr i_Trail_contains, k_Trail_contains⟩,
    M_Trail_put := ⟨a_Trail_put, beq_iff_eq.mpr i_Trail_put, k_Trail_put⟩,
    M_Trail_refuse_unknown := ⟨a_Trail_refuse_unknown, beq_iff_eq.mpr i_Trail_refuse_unknown, k_Trail_refuse_unknown⟩,
    M_Trail_refuse_unless_open := ⟨a_Trail_refuse_unless_open, beq_iff_eq.mpr i_Trail_refuse_unless_open, k_Trail_refuse_unless_open⟩,
    in_Trail := ⟨a_Trail_contains, i_Trail_contains⟩,
    C_Watching := C_Watching, c_Watching := PySem.W.mg_of X G n_Watching, cl_Watching := ⟨pg_Watching, hd_Watching, po_Watching, sa_Watching⟩, mk_Watching := ⟨mk_Watching, a_Watching_init, beq_iff_eq.mpr i_Watching_init, kc_Watching⟩,
    n_Watching__trail := nf_Watching__trail,
    n_Watching__clauses := nf_Watching__clauses,
    n_Watching__sources := nf_Watching__sources,
    n_Watching__watched := nf_Watching__watched,
    n_Watching__watchers := nf_Watching__watchers,
    n_Watching__forgotten := nf_Watching__forgotten,
    n_Watching__fresh := nf_Watching__fresh,
    n_Watching__seen := nf_Watching__seen,
    M_Watching_init := ⟨a_Watching_init, beq_iff_eq.mpr i_Watching_init, k_Watching_init⟩,
    M_Watching_put := ⟨a_Watching_put, beq_iff_eq.mpr i_Watching_put, k_Watching_put⟩,
    M_Watching_clause := ⟨a_Watching_clause, beq_iff_eq.mpr i_Watching_clause, k_Watching_clause⟩,
    M_Watching_source := ⟨a_Watching_source, beq_iff_eq.mpr i_Watching_source, k_Watching_source⟩,
    M_Watching_watched := ⟨a_Watching_watched, beq_iff_eq.mpr i_Watching_watched, k_Watching_watched⟩,
    M_Watching_propagate := ⟨a_Watching_propagate, beq_iff_eq.mpr i_Watching_propagate, k_Watching_propagate⟩,
    M_Watching_forget := ⟨a_Watching_forget, beq_iff_eq.mpr i_Watching_forget, k_Watching_forget⟩,
    M_Watching_size := ⟨a_Watching_size, beq_iff_eq.mpr i_Watching_size, k_Watching_size⟩,
    M_Watching_best_watched := ⟨a_Watching_best_watched, beq_iff_eq.mpr i_Watching_best_watched, k_Watching_best_watched⟩,
    M_Watching_rank := ⟨a_Watching_rank, beq_iff_eq.mpr i_Watching_rank, k_Watching_rank⟩,
    M_Watching_look_at_fresh := ⟨a_Watching_look_at_fresh, beq_iff_eq.mpr i_Watching_look_at_fresh, k_Watching_look_at_fresh⟩,
    M_Watching_is_false_or_forces := ⟨a_Watching_is_false_or_forces, beq_iff_eq.mpr i_Watching_is_false_or_forces, k_Watching_is_false_or_forces⟩,
    M_Watching_visit := ⟨a_Watching_visit, beq_iff_eq.mpr i_Watching_visit, k_Watching_visit⟩,
    M_Watching_other := ⟨a_Watching_other, beq_iff_eq.mpr i_Watching_other, k_Watching_other⟩,
    M_Watching_moves := ⟨a_Watching_moves, beq_iff_eq.mpr i_Watching_moves, k_Watching_moves⟩,
    M_Watching_clash_or_force := ⟨a_Watching_clash_or_force, beq_iff_eq.mpr i_Watching_clash_or_force, k_Watching_clash_or_force⟩,
    xb_PaperError := ⟨rd_PaperError, ga_PaperError, vi_PaperError⟩,
    xo_BadLiteral := ⟨⟨⟨nm_BadLiteral, q_BadLiteral, N_BadLiteral, bs_BadLiteral, _, sn_BadLiteral, sub_BadLiteral, ab_BadLiteral, col_BadLiteral, dd_BadLiteral, m0_BadLiteral, m1_BadLiteral, m2_BadLiteral, m3_BadLiteral, m5_BadLiteral, xL_BadLiteral, by first | (unfold PySem.HandSPX.refsVE; decide +kernel) | rfl⟩, sa_BadLiteral, eC_BadLiteral, tC_BadLiteral, kC_BadLiteral⟩, ⟨hg_BadLiteral, hk_BadLiteral, eC_BadLiteral, hd_BadLiteral, ha_BadLiteral, x_hn, x_ht, hm_BadLiteral⟩, no_BadLiteral, a_BadLiteral_init, i_BadLiteral_init⟩,
    e_BadLiteral_BadLiteral := e_BadLiteral_BadLiteral,
    e_BadLiteral_PaperError := e_BadLiteral_PaperError,
    k_BadLiteral_PaperError := k_BadLiteral_PaperError,
    k_BadLiteral_BadLiteral := k_BadLiteral_BadLiteral,
    k_BadLiteral_ValueError := k_BadLiteral_ValueError,
    FT_bw := ⟨_, _, _, _, _, _, _, _, rfl, l_Watching_best_watched, c_Watching_best_watched⟩,
    c_bw := c_bw,
    P_bw := P_bw }
  exact ⟨PySem.W.fnOf "law" "law" (defArgs s_law) (defBody s_law) (defScope s_law) .none kV_law dc_law pm_law an_law cd_law ct_law, fun s v => .of_eq rfl, fun base _ _ TB => ok_law T (TB _ List.mem_cons_self)⟩
end L

open PySem PySem.W PyProof.Rows
set_option maxHeartbeats 0 in
theorem PySem.Challenge.cw_papersat_k22_propagation_closes_holds : PySem.Challenge.rw_papersat_k22_propagation_closes.Holds := by
  w_on; o_law; k_head; (case hw => w_witness2)
  k_fill
  refine LamX.walk_ofTs (l := PySem.Challenge.rw_papersat_k22_propagation_closes) (n := 63) (k := 14) (x := "_law_script") (CX := fun _ => L2.CX0) rfl (by decide) rfl ⟨rfl, by decide, by decide⟩ (fun w h Y => PySem.W.km_in_of Y) ?F (fun _ _ _ _ _ h => h)
  case F =>
    intro w mg fa h Y KX G hmg
    have hT8 := PySem.W.km_tabs_of Y
    clear Y
    refine' (fun key => ?main) (L.all_mk (l := PySem.Challenge.rw_papersat_k22_propagation_closes) (w := w) (P_bw := 79) KX G hmg ?a_pool ?l_pool ?c_pool ?k_pool ?a_take ?l_take ?c_take ?k_take ?a_whole ?l_whole ?c_whole ?k_whole ?a_alike ?l_alike ?c_alike ?k_alike ?a_list ?l_list ?c_list ?k_list ?a_seat ?l_seat ?c_seat ?k_seat ?a_stranger ?l_stranger ?c_stranger ?k_stranger ?a_clause ?l_clause ?c_clause ?k_clause ?a_refused ?l_refused ?c_refused ?k_refused ?a_refused_base ?l_refused_base ?c_refused_base ?k_refused_base ?a_bad_put ?l_bad_put ?c_bad_put ?k_bad_put ?a_watched ?l_watched ?c_watched ?k_watched ?a_put ?l_put ?c_put ?k_put ?a_depth ?l_depth ?c_depth ?k_depth ?a_stands ?l_stands ?c_stands ?k_stands ?a_back ?l_back ?c_back ?k_back ?a_grown ?l_grown ?c_grown ?k_grown ?a_closure ?l_closure ?c_closure ?k_closure ?a_propagates ?l_propagates ?c_propagates ?k_propagates ?a_open ?l_open ?c_open ?k_open ?a_forget ?l_forget ?c_forget ?k_forget ?a_lot ?l_lot ?c_lot ?k_lot ?a_deed ?l_deed ?c_deed ?k_deed ?a_kept ?l_kept ?c_kept ?k_kept ?a_law ?l_law ?c_law ?k_law ?m_len ?m_int ?m_abs ?m_min ?m_max ?m_isinstance ?m_range ?m_bool ?m_list ?m_tuple ?m_sorted ?m_enumerate ?m_zip ?m_ValueError ?n_BadLiteral ?n_PaperError ?n_Trail ?n_Watching ?a_Watching_init ?i_Watching_init ?l_Watching_init ?c_Watching_init ?k_Watching_init ?a_Watching_put ?i_Watching_put ?l_Watching_put ?c_Watching_put ?k_Watching_put ?a_Watching_clause ?i_Watching_clause ?l_Watching_clause ?c_Watching_clause ?k_Watching_clause ?a_Watching_source ?i_Watching_source ?l_Watching_source ?c_Watching_source ?k_Watching_source ?a_Watching_watched ?i_Watching_watched ?l_Watching_watched ?c_Watching_watched ?k_Watching_watched ?a_Watching_propagate ?i_Watching_propagate ?l_Watching_propagate ?c_Watching_propagate ?k_Watching_propagate ?a_Watching_forget ?i_Watching_forget ?l_Watching_forget ?c_Watching_forget ?k_Watching_forget ?a_Watching_size ?i_Watching_size ?l_Watching_size ?c_Watching_size ?k_Watching_size ?a_Watching_best_watched ?i_Watching_best_watched ?l_Watching_best_watched ?c_Watching_best_watched ?k_Watching_best_watched ?a_Watching_rank ?i_Watching_rank ?l_Watching_rank ?c_Watching_rank ?k_Watching_rank ?a_Watching_look_at_fresh ?i_Watching_look_at_fresh ?l_Watching_look_at_fresh ?c_Watching_look_at_fresh ?k_Watching_look_at_fresh ?a_Watching_is_false_or_forces ?i_Watching_is_false_or_forces ?l_Watching_is_false_or_forces ?c_Watching_is_false_or_forces ?k_Watching_is_false_or_forces ?a_Watching_visit ?i_Watching_visit ?l_Watching_visit ?c_Watching_visit ?k_Watching_visit ?a_Watching_other ?i_Watching_other ?l_Watching_other ?c_Watching_other ?k_Watching_other ?a_Watching_moves ?i_Watching_moves ?l_Watching_moves ?c_Watching_moves ?k_Watching_moves ?a_Watching_clash_or_force ?i_Watching_clash_or_force ?l_Watching_clash_or_force ?c_Watching_clash_or_force ?k_Watching_clash_or_force ?a_BadLiteral_init ?i_BadLiteral_init ?l_BadLiteral_init ?c_BadLiteral_init ?k_BadLiteral_init ?a_Trail_init ?i_Trail_init ?l_Trail_init ?c_Trail_init ?k_Trail_init ?a_Trail_choose ?i_Trail_choose ?l_Trail_choose ?c_Trail_choose ?k_Trail_choose ?a_Trail_force ?i_Trail_force ?l_Trail_force ?c_Trail_force ?k_Trail_force ?a_Trail_back ?i_Trail_back ?l_Trail_back ?c_Trail_back ?k_Trail_back ?a_Trail_value ?i_Trail_value ?l_Trail_value ?c_Trail_value ?k_Trail_value ?a_Trail_level_of ?i_Trail_level_of ?l_Trail_level_of ?c_Trail_level_of ?k_Trail_level_of ?a_Trail_reason_of ?i_Trail_reason_of ?l_Trail_reason_of ?c_Trail_reason_of ?k_Trail_reason_of ?a_Trail_place_of ?i_Trail_place_of ?l_Trail_place_of ?c_Trail_place_of ?k_Trail_place_of ?a_Trail_literals ?i_Trail_literals ?l_Trail_literals ?c_Trail_literals ?k_Trail_literals ?a_Trail_sizes ?i_Trail_sizes ?l_Trail_sizes ?c_Trail_sizes ?k_Trail_sizes ?a_Trail_depth ?i_Trail_depth ?l_Trail_depth ?c_Trail_depth ?k_Trail_depth ?a_Trail_put_since ?i_Trail_put_since ?l_Trail_put_since ?c_Trail_put_since ?k_Trail_put_since ?a_Trail_contains ?i_Trail_contains ?l_Trail_contains ?c_Trail_contains ?k_Trail_contains ?a_Trail_put ?i_Trail_put ?l_Trail_put ?c_Trail_put ?k_Trail_put ?a_Trail_refuse_unknown ?i_Trail_refuse_unknown ?l_Trail_refuse_unknown ?c_Trail_refuse_unknown ?k_Trail_refuse_unknown ?a_Trail_refuse_unless_open ?i_Trail_refuse_unless_open ?l_Trail_refuse_unless_open ?c_Trail_refuse_unless_open ?k_Trail_refuse_unless_open ?pg_Trail ?hd_Trail ?po_Trail ?sa_Trail ?mk_Trail ?kc_Trail ?nf_Trail__nodes ?nf_Trail__literals ?nf_Trail__levels ?nf_Trail__reasons ?nf_Trail__places ?nf_Trail__starts ?nf_Trail__tickets ?nf_Trail__next_ticket ?pg_Watching ?hd_Watching ?po_Watching ?sa_Watching ?mk_Watching ?kc_Watching ?nf_Watching__trail ?nf_Watching__clauses ?nf_Watching__sources ?nf_Watching__watched ?nf_Watching__watchers ?nf_Watching__forgotten ?nf_Watching__fresh ?nf_Watching__seen ?rd_PaperError ?ga_PaperError ?vi_PaperError ?xL_BadLiteral ?sa_BadLiteral ?eC_BadLiteral ?tC_BadLiteral ?kC_BadLiteral ?hg_BadLiteral ?hk_BadLiteral ?hd_BadLiteral ?ha_BadLiteral ?hm_BadLiteral ?no_BadLiteral ?x_hn ?x_ht ?e_BadLiteral_BadLiteral ?e_BadLiteral_PaperError ?k_BadLiteral_PaperError ?k_BadLiteral_BadLiteral ?k_BadLiteral_ValueError ?e_bw)
    (case a_pool => first | k_is | k_exc | rfl | kernel_rfl); (case l_pool => first | k_is | k_exc | rfl | kernel_rfl); (case c_pool => first | k_is | k_exc | rfl | kernel_rfl); (case k_pool => first | k_is | k_exc | rfl | kernel_rfl); (case a_take => first | k_is | k_exc | rfl | kernel_rfl); (case l_take => first | k_is | k_exc | rfl | kernel_rfl); (case c_take => first | k_is | k_exc | rfl | kernel_rfl); (case k_take => first | k_is | k_exc | rfl | kernel_rfl); (case a_whole => first | k_is | k_exc | rfl | kernel_rfl); (case l_whole => first | k_is | k_exc | rfl | kernel_rfl); (case c_whole => first | k_is | k_exc | rfl | kernel_rfl); (case k_whole => first | k_is | k_exc | rfl | kernel_rfl); (case a_alike => first | k_is | k_exc | rfl | kernel_rfl); (case l_alike => first | k_is | k_exc | rfl | kernel_rfl); (case c_alike => first | k_is | k_exc | rfl | kernel_rfl); (case k_alike => first | k_is | k_exc | rfl | kernel_rfl); (case a_list => first | k_is | k_exc | rfl | kernel_rfl); (case l_list => first | k_is | k_exc | rfl | kernel_rfl); (case c_list => first | k_is | k_exc | rfl | kernel_rfl); (case k_list => first | k_is | k_exc | rfl | kernel_rfl); (case a_seat => first | k_is | k_exc | rfl | kernel_rfl); (case l_seat => first | k_is | k_exc | rfl | kernel_rfl); (case c_seat => first | k_is | k_exc | rfl | kernel_rfl); (case k_seat => first | k_is | k_exc | rfl | kernel_rfl); (case a_stranger => first | k_is | k_exc | rfl | kernel_rfl); (case l_stranger => first | k_is | k_exc | rfl | kernel_rfl); (case c_stranger => first | k_is | k_exc | rfl | kernel_rfl); (case k_stranger => first | k_is | k_exc | rfl | kernel_rfl); (case a_clause => first | k_is | k_exc | rfl | kernel_rfl); (case l_clause => first | k_is | k_exc | rfl | kernel_rfl); (case c_clause => first | k_is | k_exc | rfl | kernel_rfl); (case k_clause => first | k_is | k_exc | rfl | kernel_rfl); (case a_refused => first | k_is | k_exc | rfl | kernel_rfl); (case l_refused => first | k_is | k_exc | rfl | kernel_rfl); (case c_refused => first | k_is | k_exc | rfl | kernel_rfl); (case k_refused => first | k_is | k_exc | rfl | kernel_rfl); (case a_refused_base => first | k_is | k_exc | rfl | kernel_rfl); (case l_refused_base => first | k_is | k_exc | rfl | kernel_rfl); (case c_refused_base => first | k_is | k_exc | rfl | kernel_rfl); (case k_refused_base => first | k_is | k_exc | rfl | kernel_rfl); (case a_bad_put => first | k_is | k_exc | rfl | kernel_rfl); (case l_bad_put => first | k_is | k_exc | rfl | kernel_rfl); (case c_bad_put => first | k_is | k_exc | rfl | kernel_rfl); (case k_bad_put => first | k_is | k_exc | rfl | kernel_rfl); (case a_watched => first | k_is | k_exc | rfl | kernel_rfl); (case l_watched => first | k_is | k_exc | rfl | kernel_rfl); (case c_watched => first | k_is | k_exc | rfl | kernel_rfl); (case k_watched => first | k_is | k_exc | rfl | kernel_rfl); (case a_put => first | k_is | k_exc | rfl | kernel_rfl); (case l_put => first | k_is | k_exc | rfl | kernel_rfl); (case c_put => first | k_is | k_exc | rfl | kernel_rfl); (case k_put => first | k_is | k_exc | rfl | kernel_rfl); (case a_depth => first | k_is | k_exc | rfl | kernel_rfl); (case l_depth => first | k_is | k_exc | rfl | kernel_rfl); (case c_depth => first | k_is | k_exc | rfl | kernel_rfl); (case k_depth => first | k_is | k_exc | rfl | kernel_rfl); (case a_stands => first | k_is | k_exc | rfl | kernel_rfl); (case l_stands => first | k_is | k_exc | rfl | kernel_rfl); (case c_stands => first | k_is | k_exc | rfl | kernel_rfl); (case k_stands => first | k_is | k_exc | rfl | kernel_rfl); (case a_back => first | k_is | k_exc | rfl | kernel_rfl); (case l_back => first | k_is | k_exc | rfl | kernel_rfl); (case c_back => first | k_is | k_exc | rfl | kernel_rfl); (case k_back => first | k_is | k_exc | rfl | kernel_rfl); (case a_grown => first | k_is | k_exc | rfl | kernel_rfl); (case l_grown => first | k_is | k_exc | rfl | kernel_rfl); (case c_grown => first | k_is | k_exc | rfl | kernel_rfl); (case k_grown => first | k_is | k_exc | rfl | kernel_rfl); (case a_closure => first | k_is | k_exc | rfl | kernel_rfl); (case l_closure => first | k_is | k_exc | rfl | kernel_rfl); (case c_closure => first | k_is | k_exc | rfl | kernel_rfl); (case k_closure => first | k_is | k_exc | rfl | kernel_rfl); (case a_propagates => first | k_is | k_exc | rfl | kernel_rfl); (case l_propagates => first | k_is | k_exc | rfl | kernel_rfl); (case c_propagates => first | k_is | k_exc | rfl | kernel_rfl); (case k_propagates => first | k_is | k_exc | rfl | kernel_rfl); (case a_open => first | k_is | k_exc | rfl | kernel_rfl); (case l_open => first | k_is | k_exc | rfl | kernel_rfl); (case c_open => first | k_is | k_exc | rfl | kernel_rfl); (case k_open => first | k_is | k_exc | rfl | kernel_rfl); (case a_forget => first | k_is | k_exc | rfl | kernel_rfl); (case l_forget => first | k_is | k_exc | rfl | kernel_rfl); (case c_forget => first | k_is | k_exc | rfl | kernel_rfl); (case k_forget => first | k_is | k_exc | rfl | kernel_rfl); (case a_lot => first | k_is | k_exc | rfl | kernel_rfl); (case l_lot => first | k_is | k_exc | rfl | kernel_rfl); (case c_lot => first | k_is | k_exc | rfl | kernel_rfl); (case k_lot => first | k_is | k_exc | rfl | kernel_rfl); (case a_deed => first | k_is | k_exc | rfl | kernel_rfl); (case l_deed => first | k_is | k_exc | rfl | kernel_rfl); (case c_deed => first | k_is | k_exc | rfl | kernel_rfl); (case k_deed => first | k_is | k_exc | rfl | kernel_rfl); (case a_kept => first | k_is | k_exc | rfl | kernel_rfl); (case l_kept => first | k_is | k_exc | rfl | kernel_rfl); (case c_kept => first | k_is | k_exc | rfl | kernel_rfl); (case k_kept => first | k_is | k_exc | rfl | kernel_rfl); (case a_law => first | k_is | k_exc | rfl | kernel_rfl); (case l_law => first | k_is | k_exc | rfl | kernel_rfl); (case c_law => first | k_is | k_exc | rfl | kernel_rfl); (case k_law => first | k_is | k_exc | rfl | kernel_rfl); (case m_len => first | k_is | k_exc | rfl | kernel_rfl); (case m_int => first | k_is | k_exc | rfl | kernel_rfl); (case m_abs => first | k_is | k_exc | rfl | kernel_rfl); (case m_min => first | k_is | k_exc | rfl | kernel_rfl); (case m_max => first | k_is | k_exc | rfl | kernel_rfl); (case m_isinstance => first | k_is | k_exc | rfl | kernel_rfl); (case m_range => first | k_is | k_exc | rfl | kernel_rfl); (case m_bool => first | k_is | k_exc | rfl | kernel_rfl); (case m_list => first | k_is | k_exc | rfl | kernel_rfl); (case m_tuple => first | k_is | k_exc | rfl | kernel_rfl); (case m_sorted => first | k_is | k_exc | rfl | kernel_rfl); (case m_enumerate => first | k_is | k_exc | rfl | kernel_rfl); (case m_zip => first | k_is | k_exc | rfl | kernel_rfl); (case m_ValueError => first | k_is | k_exc | rfl | kernel_rfl); (case n_BadLiteral => first | k_is | k_exc | rfl | kernel_rfl); (case n_PaperError => first | k_is | k_exc | rfl | kernel_rfl); (case n_Trail => first | k_is | k_exc | rfl | kernel_rfl); (case n_Watching => first | k_is | k_exc | rfl | kernel_rfl); (case a_Watching_init => first | k_is | k_exc | rfl | kernel_rfl); (case i_Watching_init => first | k_is | k_exc | rfl | kernel_rfl); (case l_Watching_init => first | k_is | k_exc | rfl | kernel_rfl); (case c_Watching_init => first | k_is | k_exc | rfl | kernel_rfl); (case k_Watching_init => first | k_is | k_exc | rfl | kernel_rfl); (case a_Watching_put => first | k_is | k_exc | rfl | kernel_rfl); (case i_Watching_put => first | k_is | k_exc | rfl | kernel_rfl); (case l_Watching_put => first | k_is | k_exc | rfl | kernel_rfl); (case c_Watching_put => first | k_is | k_exc | rfl | kernel_rfl); (case k_Watching_put => first | k_is | k_exc | rfl | kernel_rfl); (case a_Watching_clause => first | k_is | k_exc | rfl | kernel_rfl); (case i_Watching_clause => first | k_is | k_exc | rfl | kernel_rfl); (case l_Watching_clause => first | k_is | k_exc | rfl | kernel_rfl); (case c_Watching_clause => first | k_is | k_exc | rfl | kernel_rfl); (case k_Watching_clause => first | k_is | k_exc | rfl | kernel_rfl); (case a_Watching_source => first | k_is | k_exc | rfl | kernel_rfl); (case i_Watching_source => first | k_is | k_exc | rfl | kernel_rfl); (case l_Watching_source => first | k_is | k_exc | rfl | kernel_rfl); (case c_Watching_source => first | k_is | k_exc | rfl | kernel_rfl); (case k_Watching_source => first | k_is | k_exc | rfl | kernel_rfl); (case a_Watching_watched => first | k_is | k_exc | rfl | kernel_rfl); (case i_Watching_watched => first | k_is | k_exc | rfl | kernel_rfl); (case l_Watching_watched => first | k_is | k_exc | rfl | kernel_rfl); (case c_Watching_watched => first | k_is | k_exc | rfl | kernel_rfl); (case k_Watching_watched => first | k_is | k_exc | rfl | kernel_rfl); (case a_Watching_propagate => first | k_is | k_exc | rfl | kernel_rfl); (case i_Watching_propagate => first | k_is | k_exc | rfl | kernel_rfl); (case l_Watching_propagate => first | k_is | k_exc | rfl | kernel_rfl); (case c_Watching_propagate => first | k_is | k_exc | rfl | kernel_rfl); (case k_Watching_propagate => first | k_is | k_exc | rfl | kernel_rfl); (case a_Watching_forget => first | k_is | k_exc | rfl | kernel_rfl); (case i_Watching_forget => first | k_is | k_exc | rfl | kernel_rfl); (case l_Watching_forget => first | k_is | k_exc | rfl | kernel_rfl); (case c_Watching_forget => first | k_is | k_exc | rfl | kernel_rfl); (case k_Watching_forget => first | k_is | k_exc | rfl | kernel_rfl); (case a_Watching_size => first | k_is | k_exc | rfl | kernel_rfl); (case i_Watching_size => first | k_is | k_exc | rfl | kernel_rfl); (case l_Watching_size => first | k_is | k_exc | rfl | kernel_rfl); (case c_Watching_size => first | k_is | k_exc | rfl | kernel_rfl); (case k_Watching_size => first | k_is | k_exc | rfl | kernel_rfl); (case a_Watching_best_watched => first | k_is | k_exc | rfl | kernel_rfl); (case i_Watching_best_watched => first | k_is | k_exc | rfl | kernel_rfl); (case l_Watching_best_watched => first | k_is | k_exc | rfl | kernel_rfl); (case c_Watching_best_watched => first | k_is | k_exc | rfl | kernel_rfl); (case k_Watching_best_watched => first | k_is | k_exc | rfl | kernel_rfl); (case a_Watching_rank => first | k_is | k_exc | rfl | kernel_rfl); (case i_Watching_rank => first | k_is | k_exc | rfl | kernel_rfl); (case l_Watching_rank => first | k_is | k_exc | rfl | kernel_rfl); (case c_Watching_rank => first | k_is | k_exc | rfl | kernel_rfl); (case k_Watching_rank => first | k_is | k_exc | rfl | kernel_rfl); (case a_Watching_look_at_fresh => first | k_is | k_exc | rfl | kernel_rfl); (case i_Watching_look_at_fresh => first | k_is | k_exc | rfl | kernel_rfl); (case l_Watching_look_at_fresh => first | k_is | k_exc | rfl | kernel_rfl); (case c_Watching_look_at_fresh => first | k_is | k_exc | rfl | kernel_rfl); (case k_Watching_look_at_fresh => first | k_is | k_exc | rfl | kernel_rfl); (case a_Watching_is_false_or_forces => first | k_is | k_exc | rfl | kernel_rfl); (case i_Watching_is_false_or_forces => first | k_is | k_exc | rfl | kernel_rfl); (case l_Watching_is_false_or_forces => first | k_is | k_exc | rfl | kernel_rfl); (case c_Watching_is_false_or_forces => first | k_is | k_exc | rfl | kernel_rfl); (case k_Watching_is_false_or_forces => first | k_is | k_exc | rfl | kernel_rfl); (case a_Watching_visit => first | k_is | k_exc | rfl | kernel_rfl); (case i_Watching_visit => first | k_is | k_exc | rfl | kernel_rfl); (case l_Watching_visit => first | k_is | k_exc | rfl | kernel_rfl); (case c_Watching_visit => first | k_is | k_exc | rfl | kernel_rfl); (case k_Watching_visit => first | k_is | k_exc | rfl | kernel_rfl); (case a_Watching_other => first | k_is | k_exc | rfl | kernel_rfl); (case i_Watching_other => first | k_is | k_exc | rfl | kernel_rfl); (case l_Watching_other => first | k_is | k_exc | rfl | kernel_rfl); (case c_Watching_other => first | k_is | k_exc | rfl | kernel_rfl); (case k_Watching_other => first | k_is | k_exc | rfl | kernel_rfl); (case a_Watching_moves => first | k_is | k_exc | rfl | kernel_rfl); (case i_Watching_moves => first | k_is | k_exc | rfl | kernel_rfl); (case l_Watching_moves => first | k_is | k_exc | rfl | kernel_rfl); (case c_Watching_moves => first | k_is | k_exc | rfl | kernel_rfl); (case k_Watching_moves => first | k_is | k_exc | rfl | kernel_rfl); (case a_Watching_clash_or_force => first | k_is | k_exc | rfl | kernel_rfl); (case i_Watching_clash_or_force => first | k_is | k_exc | rfl | kernel_rfl); (case l_Watching_clash_or_force => first | k_is | k_exc | rfl | kernel_rfl); (case c_Watching_clash_or_force => first | k_is | k_exc | rfl | kernel_rfl); (case k_Watching_clash_or_force => first | k_is | k_exc | rfl | kernel_rfl); (case a_BadLiteral_init => first | k_is | k_exc | rfl | kernel_rfl); (case i_BadLiteral_init => first | k_is | k_exc | rfl | kernel_rfl); (case l_BadLiteral_init => first | k_is | k_exc | rfl | kernel_rfl); (case c_BadLiteral_init => first | k_is | k_exc | rfl | kernel_rfl); (case k_BadLiteral_init => first | k_is | k_exc | rfl | kernel_rfl); (case a_Trail_init => first | k_is | k_exc | rfl | kernel_rfl); (case i_Trail_init => first | k_is | k_exc | rfl | kernel_rfl); (case l_Trail_init => first | k_is | k_exc | rfl | kernel_rfl); (case c_Trail_init => first | k_is | k_exc | rfl | kernel_rfl); (case k_Trail_init => first | k_is | k_exc | rfl | kernel_rfl); (case a_Trail_choose => first | k_is | k_exc | rfl | kernel_rfl); (case i_Trail_choose => first | k_is | k_exc | rfl | kernel_rfl); (case l_Trail_choose => first | k_is | k_exc | rfl | kernel_rfl); (case c_Trail_choose => first | k_is | k_exc | rfl | kernel_rfl); (case k_Trail_choose => first | k_is | k_exc | rfl | kernel_rfl); (case a_Trail_force => first | k_is | k_exc | rfl | kernel_rfl); (case i_Trail_force => first | k_is | k_exc | rfl | kernel_rfl); (case l_Trail_force => first | k_is | k_exc | rfl | kernel_rfl); (case c_Trail_force => first | k_is | k_exc | rfl | kernel_rfl); (case k_Trail_force => first | k_is | k_exc | rfl | kernel_rfl); (case a_Trail_back => first | k_is | k_exc | rfl | kernel_rfl); (case i_Trail_back => first | k_is | k_exc | rfl | kernel_rfl); (case l_Trail_back => first | k_is | k_exc | rfl | kernel_rfl); (case c_Trail_back => first | k_is | k_exc | rfl | kernel_rfl); (case k_Trail_back => first | k_is | k_exc | rfl | kernel_rfl); (case a_Trail_value => first | k_is | k_exc | rfl | kernel_rfl); (case i_Trail_value => first | k_is | k_exc | rfl | kernel_rfl); (case l_Trail_value => first | k_is | k_exc | rfl | kernel_rfl); (case c_Trail_value => first | k_is | k_exc | rfl | kernel_rfl); (case k_Trail_value => first | k_is | k_exc | rfl | kernel_rfl); (case a_Trail_level_of => first | k_is | k_exc | rfl | kernel_rfl); (case i_Trail_level_of => first | k_is | k_exc | rfl | kernel_rfl); (case l_Trail_level_of => first | k_is | k_exc | rfl | kernel_rfl); (case c_Trail_level_of => first | k_is | k_exc | rfl | kernel_rfl); (case k_Trail_level_of => first | k_is | k_exc | rfl | kernel_rfl); (case a_Trail_reason_of => first | k_is | k_exc | rfl | kernel_rfl); (case i_Trail_reason_of => first | k_is | k_exc | rfl | kernel_rfl); (case l_Trail_reason_of => first | k_is | k_exc | rfl | kernel_rfl); (case c_Trail_reason_of => first | k_is | k_exc | rfl | kernel_rfl); (case k_Trail_reason_of => first | k_is | k_exc | rfl | kernel_rfl); (case a_Trail_place_of => first | k_is | k_exc | rfl | kernel_rfl); (case i_Trail_place_of => first | k_is | k_exc | rfl | kernel_rfl); (case l_Trail_place_of => first | k_is | k_exc | rfl | kernel_rfl); (case c_Trail_place_of => first | k_is | k_exc | rfl | kernel_rfl); (case k_Trail_place_of => first | k_is | k_exc | rfl | kernel_rfl); (case a_Trail_literals => first | k_is | k_exc | rfl | kernel_rfl); (case i_Trail_literals => first | k_is | k_exc | rfl | kernel_rfl); (case l_Trail_literals => first | k_is | k_exc | rfl | kernel_rfl); (case c_Trail_literals => first | k_is | k_exc | rfl | kernel_rfl); (case k_Trail_literals => first | k_is | k_exc | rfl | kernel_rfl); (case a_Trail_sizes => first | k_is | k_exc | rfl | kernel_rfl); (case i_Trail_sizes => first | k_is | k_exc | rfl | kernel_rfl); (case l_Trail_sizes => first | k_is | k_exc | rfl | kernel_rfl); (case c_Trail_sizes => first | k_is | k_exc | rfl | kernel_rfl); (case k_Trail_sizes => first | k_is | k_exc | rfl | kernel_rfl); (case a_Trail_depth => first | k_is | k_exc | rfl | kernel_rfl); (case i_Trail_depth => first | k_is | k_exc | rfl | kernel_rfl); (case l_Trail_depth => first | k_is | k_exc | rfl | kernel_rfl); (case c_Trail_depth => first | k_is | k_exc | rfl | kernel_rfl); (case k_Trail_depth => first | k_is | k_exc | rfl | kernel_rfl); (case a_Trail_put_since => first | k_is | k_exc | rfl | kernel_rfl); (case i_Trail_put_since => first | k_is | k_exc | rfl | kernel_rfl); (case l_Trail_put_since => first | k_is | k_exc | rfl | kernel_rfl); (case c_Trail_put_since => first | k_is | k_exc | rfl | kernel_rfl); (case k_Trail_put_since => first | k_is | k_exc | rfl | kernel_rfl); (case a_Trail_contains => first | k_is | k_exc | rfl | kernel_rfl); (case i_Trail_contains => first | k_is | k_exc | rfl | kernel_rfl); (case l_Trail_contains => first | k_is | k_exc | rfl | kernel_rfl); (case c_Trail_contains => first | k_is | k_exc | rfl | kernel_rfl); (case k_Trail_contains => first | k_is | k_exc | rfl | kernel_rfl); (case a_Trail_put => first | k_is | k_exc | rfl | kernel_rfl); (case i_Trail_put => first | k_is | k_exc | rfl | kernel_rfl); (case l_Trail_put => first | k_is | k_exc | rfl | kernel_rfl); (case c_Trail_put => first | k_is | k_exc | rfl | kernel_rfl); (case k_Trail_put => first | k_is | k_exc | rfl | kernel_rfl); (case a_Trail_refuse_unknown => first | k_is | k_exc | rfl | kernel_rfl); (case i_Trail_refuse_unknown => first | k_is | k_exc | rfl | kernel_rfl); (case l_Trail_refuse_unknown => first | k_is | k_exc | rfl | kernel_rfl); (case c_Trail_refuse_unknown => first | k_is | k_exc | rfl | kernel_rfl); (case k_Trail_refuse_unknown => first | k_is | k_exc | rfl | kernel_rfl); (case a_Trail_refuse_unless_open => first | k_is | k_exc | rfl | kernel_rfl); (case i_Trail_refuse_unless_open => first | k_is | k_exc | rfl | kernel_rfl); (case l_Trail_refuse_unless_open => first | k_is | k_exc | rfl | kernel_rfl); (case c_Trail_refuse_unless_open => first | k_is | k_exc | rfl | kernel_rfl); (case k_Trail_refuse_unless_open => first | k_is | k_exc | rfl | kernel_rfl); (case pg_Trail => first | k_is | k_exc | rfl | kernel_rfl); (case hd_Trail => first | k_is | k_exc | rfl | kernel_rfl); (case po_Trail => first | k_is | k_exc | rfl | kernel_rfl); (case sa_Trail => first | k_is | k_exc | rfl | kernel_rfl); (case mk_Trail => first | k_is | k_exc | rfl | kernel_rfl); (case kc_Trail => first | k_is | k_exc | rfl | kernel_rfl); (case nf_Trail__nodes => first | k_is | k_exc | rfl | kernel_rfl); (case nf_Trail__literals => first | k_is | k_exc | rfl | kernel_rfl); (case nf_Trail__levels => first | k_is | k_exc | rfl | kernel_rfl); (case nf_Trail__reasons => first | k_is | k_exc | rfl | kernel_rfl); (case nf_Trail__places => first | k_is | k_exc | rfl | kernel_rfl); (case nf_Trail__starts => first | k_is | k_exc | rfl | kernel_rfl); (case nf_Trail__tickets => first | k_is | k_exc | rfl | kernel_rfl); (case nf_Trail__next_ticket => first | k_is | k_exc | rfl | kernel_rfl); (case pg_Watching => first | k_is | k_exc | rfl | kernel_rfl); (case hd_Watching => first | k_is | k_exc | rfl | kernel_rfl); (case po_Watching => first | k_is | k_exc | rfl | kernel_rfl); (case sa_Watching => first | k_is | k_exc | rfl | kernel_rfl); (case mk_Watching => first | k_is | k_exc | rfl | kernel_rfl); (case kc_Watching => first | k_is | k_exc | rfl | kernel_rfl); (case nf_Watching__trail => first | k_is | k_exc | rfl | kernel_rfl); (case nf_Watching__clauses => first | k_is | k_exc | rfl | kernel_rfl); (case nf_Watching__sources => first | k_is | k_exc | rfl | kernel_rfl); (case nf_Watching__watched => first | k_is | k_exc | rfl | kernel_rfl); (case nf_Watching__watchers => first | k_is | k_exc | rfl | kernel_rfl); (case nf_Watching__forgotten => first | k_is | k_exc | rfl | kernel_rfl); (case nf_Watching__fresh => first | k_is | k_exc | rfl | kernel_rfl); (case nf_Watching__seen => first | k_is | k_exc | rfl | kernel_rfl); (case rd_PaperError => first | k_is | k_exc | rfl | kernel_rfl); (case ga_PaperError => first | k_is | k_exc | rfl | kernel_rfl); (case vi_PaperError => first | k_is | k_exc | rfl | kernel_rfl); (case xL_BadLiteral => first | k_is | k_exc | rfl | kernel_rfl); (case sa_BadLiteral => first | k_is | k_exc | rfl | kernel_rfl); (case eC_BadLiteral => first | k_is | k_exc | rfl | kernel_rfl); (case tC_BadLiteral => first | k_is | k_exc | rfl | kernel_rfl); (case kC_BadLiteral => first | k_is | k_exc | rfl | kernel_rfl); (case hg_BadLiteral => first | k_is | k_exc | rfl | kernel_rfl); (case hk_BadLiteral => first | k_is | k_exc | rfl | kernel_rfl); (case hd_BadLiteral => first | k_is | k_exc | rfl | kernel_rfl); (case ha_BadLiteral => first | k_is | k_exc | rfl | kernel_rfl); (case hm_BadLiteral => first | k_is | k_exc | rfl | kernel_rfl); (case no_BadLiteral => first | k_is | k_exc | rfl | kernel_rfl); (case x_hn => first | k_is | k_exc | rfl | kernel_rfl); (case x_ht => first | k_is | k_exc | rfl | kernel_rfl); (case e_BadLiteral_BadLiteral => first | k_is | k_exc | rfl | kernel_rfl); (case e_BadLiteral_PaperError => first | k_is | k_exc | rfl | kernel_rfl); (case k_BadLiteral_PaperError => first | k_is | k_exc | rfl | kernel_rfl); (case k_BadLiteral_BadLiteral => first | k_is | k_exc | rfl | kernel_rfl); (case k_BadLiteral_ValueError => first | k_is | k_exc | rfl | kernel_rfl); (case e_bw => first | k_is | k_exc | rfl | kernel_rfl)
    case main =>
      obtain ⟨fd, hb, hF⟩ := key
      refine ⟨fd, [(_, 79)], L.spLaw _ 79, fun p hp => ?_, fun p hp => ?_, fun p hp => ?_, hb, fun H a ns hl _ hH hS => ⟨a, ns, rfl, hS, hl, hH _ List.mem_cons_self, fun _ => rfl⟩, hF⟩
      · rw [List.mem_singleton.mp hp]; exact hT8 79 List.mem_cons_self
      · rw [List.mem_singleton.mp hp]; (first | rfl | kernel_rfl | k_is)
      · rw [List.mem_singleton.mp hp]; exact PySem.W.codeHd_of_K KX (by kernel_rfl)
#print axioms PySem.Challenge.cw_papersat_k22_propagation_closes_holds
