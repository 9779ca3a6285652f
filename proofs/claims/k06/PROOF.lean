import PyProof.Rows.All
import Wide.All
import OpenK.AllK
import Wide.FinOn
import HandS.ForMost
import HandS.ForExc
import HandS.IsInst
import HandS.Gcd
import HandS.Wide
import HandS.WideBits
import HandS.Defaults
import HandS.ExcIs
import HandS.Small
import HandS.Flow
import HandS.Evl
import HandS.DictEq
import HandS.Walk
import HandS.TupLe
import HandS.More
import HandS.ForDict
import HandS.TupAny
import KE.KDictPairs
import KE.KEqDict
import HandS.OwnIter
import HandS.IterNext
import HandS.DictComp
import HandS.RevRange
import HandS.ExcInit
import HandS.ExcField
import HandS.FStr
import HandS.StrMore
import HandS.Codes
import KE.KExcIs
import KE.SortKeyHeap
import KE.SortData
import HandS.SortKw
import HandS.EndTab
import HandS.Nested
import KE.KDictZip
import PyProof.TupleOfSeq
import HandS.ExcCtx
import HandS.Hot
import HandS.HotCalls
import HandS.TryMany
import HandS.ExcOwn
import HandS.Style
import HandS.Star
import HandS.SetFor
import HandS.SetKeys
import HandS.Dict
import KE.KDictKeyed
import KE.KeyNested
import HandS.Strs
import HandS.Zip
import HandS.ReplaceLit
import HandS.ReplaceList
import KE.KDictSum
import KE.KDictList
import HandS.SortRule
import HandS.SortInts
import HandS.Deep
import HandS.HeadHook3
import HandS.AnyAll
import PyProof.JoinWalk
import KE.KNest
import KE.GoesRaise
import PyProof.EqAt
import PyProof.EqKinds
import PyProof.TupleCall
import PySem.Challenge.RW_papersat_k06_bank_makes_once
set_option Elab.async false
set_option linter.all false
set_option maxRecDepth 100000
set_option maxHeartbeats 4000000
/-! ### short words for readings -/
namespace Z
open PySem PySem.Spec PyProof.Rows L2
variable {σ σ' : L2.St} {H : Hp} {Q : VK} {D : Ends} {ta tb te : TE} {t u : TS} {tt tu : TT} {g : TG} {v x y : V} {i : Nat} {K : PySem.W.Frag} {p : Addr}
theorem w_var (h : σ[i]? = some (some v)) (q : Q v H) : tVar i σ H Q := ⟨v, h, q⟩
theorem w_c (q : Q v H) : tC v σ H Q := q
theorem w_op {r : R2} (h : ta σ H fun x H1 => tb σ H1 fun y H2 => r x y H2 Q) : tOp r ta tb σ H Q := h
theorem w_un {r : V → Hp → VK → Prop} (h : ta σ H fun x H1 => r x H1 Q) : tUn r ta σ H Q := h
theorem w_rI0 {f : Int → Int → V} {a b : Int} (q : Q (f a b) H) : rI0 f (.int a) (.int b) H Q := ⟨a, b, rfl, rfl, q⟩
theorem w_rI {C : Int → Int → Prop} {f : Int → Int → V} {a b : Int} (c : C a b) (q : Q (f a b) H) : rI C f (.int a) (.int b) H Q := ⟨a, b, rfl, rfl, c, q⟩
theorem w_rU {f : Int → V} {a : Int} (q : Q (f a) H) : rU f (.int a) H Q := ⟨a, rfl, q⟩
theorem w_rEq (c : scal x y = true) (q : Q (.bl (decide (x = y))) H) : rEq x y H Q := ⟨c, q⟩
theorem w_rNe (c : scal x y = true) (q : Q (.bl (!decide (x = y))) H) : rNe x y H Q := ⟨c, q⟩
theorem w_rEqI {a b : Int} (q : Q (.bl (decide (a = b))) H) : rEq (.int a) (.int b) H Q := ⟨rfl, by
  rw [show decide (V.int a = V.int b) = decide (a = b) by simp]; exact q⟩
theorem w_rNeI {a b : Int} (q : Q (.bl (!decide (a = b))) H) : rNe (.int a) (.int b) H Q := ⟨rfl, by
  rw [show decide (V.int a = V.int b) = decide (a = b) by simp]; exact q⟩
theorem w_ixL {xs : List V} {k : Int} (h : SqL K H p xs) (a : atI xs k = some v) (q : Q v H) : rIxL K (.ref p) (.int k) H Q := ⟨p, xs, k, v, rfl, rfl, h, a, q⟩
theorem w_ixT {xs : List V} {k : Int} (h : SqT K H p xs) (a : atI xs k = some v) (q : Q v H) : rIxT K (.ref p) (.int k) H Q := ⟨p, xs, k, v, rfl, rfl, h, a, q⟩
theorem w_start (e : σ = σ') (h : t D σ' H) : t D σ H := by rw [e]; exact h
theorem w_seq (h : t { D with nx := u D } σ H) : tSeq t u D σ H := h
theorem w_next (h : D.nx σ H) : tNext D σ H := h
theorem w_break (h : D.bk σ H) : tBreak D σ H := h
theorem w_cont (h : D.ct σ H) : tCont D σ H := h
theorem w_drop (h : te σ H fun _ H1 => D.nx σ H1) : tDrop te D σ H := h
theorem w_ret (h : te σ H D.rt) : tRet te D σ H := h
theorem w_asg (h : te σ H fun x H1 => g x σ H1 D.nx) : tAsg te g D σ H := h
theorem w_gname {R : L2.St → Hp → Prop} (e : σ.set i (some v) = σ') (h : R σ' H) : gName i v σ H R := by rw [← e] at h; exact h
theorem w_ifs (h : tt σ H fun b H1 => if b = true then t D σ H1 else u D σ H1) : tIfS tt t u D σ H := h
theorem w_test {R : Bool → Hp → Prop} (h : te σ H fun x H1 => ∃ k, x = .bl k ∧ R k H1) : tTest te σ H R := h
theorem w_B {R : Bool → Hp → Prop} (h : te σ H fun x H1 => ∃ k, x = .bl k ∧ R k H1) : tB te σ H R := h
theorem w_bl {k : Bool} {R : Bool → Prop} (h : R k) : ∃ c, V.bl k = V.bl c ∧ R c := ⟨k, rfl, h⟩
theorem w_tand {R : Bool → Hp → Prop} (h : tt σ H fun c H1 => if c = true then tu σ H1 R else R false H1) : tAnd tt tu σ H R := h
theorem w_tor {R : Bool → Hp → Prop} (h : tt σ H fun c H1 => if c = true then R true H1 else tu σ H1 R) : tOr tt tu σ H R := h
theorem w_tnot {R : Bool → Hp → Prop} (h : tt σ H fun c H1 => R (!c) H1) : tNot tt σ H R := h
theorem w_andV (h : ta σ H fun x H1 => ∃ c, x = .bl c ∧ if c = true then tb σ H1 Q else Q (.bl false) H1) : tAndV ta tb σ H Q := h
theorem w_orV (h : ta σ H fun x H1 => ∃ c, x = .bl c ∧ if c = true then Q (.bl true) H1 else tb σ H1 Q) : tOrV ta tb σ H Q := h
theorem w_notV (h : ta σ H fun x H1 => ∃ c, x = .bl c ∧ Q (.bl (!c)) H1) : tNotV ta σ H Q := h
theorem w_ifV (h : tt σ H fun c H1 => if c = true then ta σ H1 Q else tb σ H1 Q) : tIf tt ta tb σ H Q := h
theorem w_nil {R : List V → Hp → Prop} (h : R [] H) : tNil σ H R := h
theorem w_cons {tr : TA} {R : List V → Hp → Prop} (h : ta σ H fun x H1 => tr σ H1 fun xs H2 => R (x :: xs) H2) : tCons ta tr σ H R := h
theorem w_cb {r : List V → Hp → VK → Prop} {tl : TA} (h : tl σ H fun vs H1 => r vs H1 Q) : tCB r tl σ H Q := h
theorem w_call {sp : Sp} {dvs : List V} {E : XK} {tl : TA} (h : tl σ H fun vs H1 => sp (vs ++ dvs) H1 Q E) : tCall sp dvs E tl σ H Q := h
theorem w_call0 {sp : Sp} {E : XK} {tl : TA} (h : tl σ H fun vs H1 => sp vs H1 Q E) : tCall sp [] E tl σ H Q := by
  unfold tCall
  simp only [List.append_nil]
  exact h
theorem w_tup {tl : TA} (h : tl σ H fun xs H1 => xs.length ≤ sizeLine ∧ ∀ p, H1 p = none → Q (.ref p) (upd H1 p (.tup xs))) : tTup tl σ H Q := h
theorem w_lst {tl : TA} (h : tl σ H fun xs H1 => xs.length ≤ sizeLine ∧ ∀ p, H1 p = none → Q (.ref p) (upd H1 p (.lst xs))) : tLst tl σ H Q := h
def par2 (a b : Nat) (vs : List V) (σ : L2.St) (H : Hp) (R : L2.St → Hp → Prop) : Prop := ∃ v w, vs = [v, w] ∧ R ((σ.set a (some v)).set b (some w)) H
theorem w_par {a b : Nat} {tl : TA} (h : tl σ H fun vs H1 => par2 a b vs σ H1 D.nx) : tPar a b tl D σ H := h
theorem w_par2 {a b : Nat} {v w : V} {R : L2.St → Hp → Prop} (e : (σ.set a (some v)).set b (some w) = σ') (h : R σ' H) : par2 a b [v, w] σ H R := ⟨v, w, rfl, by rw [e]; exact h⟩
theorem w_gtup {n : Nat} {gs : TGs} {xs : List V} {R : L2.St → Hp → Prop} (h : SqT K H p xs) (l : xs.length = n) (q : gs xs σ H R) : gTup K n gs (.ref p) σ H R := ⟨p, xs, rfl, h, l, q⟩
theorem w_gcons {gs : TGs} {vs : List V} {R : L2.St → Hp → Prop} (h : g v σ H fun σ' H' => gs vs σ' H' R) : gCons g gs (v :: vs) σ H R := ⟨v, vs, rfl, h⟩
theorem w_gnil {R : L2.St → Hp → Prop} (h : R σ H) : gNil [] σ H R := ⟨rfl, h⟩
theorem w_gsub {to ti : TE} {ts : TSet} {R : L2.St → Hp → Prop} (h : to σ H fun o H1 => ti σ H1 fun i H2 => ts o i v H2 fun H3 => R σ H3) : gSub to ti ts v σ H R := h
theorem w_setL {xs : List V} {k : Int} {j : Nat} {R : Hp → Prop} (h : H p = some (.lst xs)) (e : ixN xs.length k = some j) (q : R (upd H p (.lst (xs.set j v)))) : rSetL (.ref p) (.int k) v H R := ⟨p, xs, k, j, rfl, rfl, h, e, q⟩
theorem w_rng1 {tl : TA} {R : It → Hp → Prop} (h : tl σ H fun vs H1 => ∃ j : Int, vs = [.int j] ∧ -(2 ^ 62) ≤ j ∧ j < 2 ^ 62 ∧ R (Itr 0 j.toNat) H1) : iRng1 tl σ H R := h
theorem w_rng1' {j : Int} {R : It → Prop} (h1 : -(2 ^ 62) ≤ j) (h2 : j < 2 ^ 62) (h : R (Itr 0 j.toNat)) : ∃ k : Int, [V.int j] = [.int k] ∧ -(2 ^ 62) ≤ k ∧ k < 2 ^ 62 ∧ R (Itr 0 k.toNat) := ⟨j, rfl, h1, h2, h⟩
theorem w_for {wi : TI} {tb' : TS} (h : wi σ H fun J H1 => ∃ W : Nat → Nat → L2.St → Hp → Prop, (∃ m, W 0 m σ H1) ∧ ∀ i m σ H, W i m σ H →
  (J.stop i H ∧ D.nx σ H) ∨ (J.go i H ∧ ∃ N : L2.St → Hp → Prop, (∀ σ' H', N σ' H' → ∃ m', m' < m ∧ W (i + 1) m' σ' H') ∧ ∀ x H', J.yld i H x H' → g x σ H' fun σ2 H2 => tb' { D with nx := N, ct := N, bk := D.nx } σ2 H2)) : tFor wi g tb' D σ H := h
theorem w_bits (h : te σ H fun x H1 => ∃ i, x = .int i ∧ Q (.int (Builtin.Int.intBits i : Nat)) H1) : tBits te σ H Q := h
theorem w_ex1 {a : Int} {R : Int → Prop} (h : R a) : ∃ i, V.int a = V.int i ∧ R i := ⟨a, rfl, h⟩
theorem w_exl {xs : List V} {R : List V → Prop} (h : R xs) : ∃ ys, xs = ys ∧ R ys := ⟨xs, rfl, h⟩
theorem sz4 {n : Nat} (h : n ≤ 1000) : n ≤ sizeLine := Nat.le_trans h (by decide)
theorem w_ixH {xs : List V} {k : Int} (h : H p = some (.lst xs)) (a : atI xs k = some v) (q : Q v H) : rIxL K (.ref p) (.int k) H Q := ⟨p, xs, k, v, rfl, rfl, .inl (.inl h), a, q⟩
theorem w_ixTH {xs : List V} {k : Int} (h : H p = some (.tup xs)) (a : atI xs k = some v) (q : Q v H) : rIxT K (.ref p) (.int k) H Q := ⟨p, xs, k, v, rfl, rfl, .inl (.inl h), a, q⟩
theorem w_gtupH {n : Nat} {gs : TGs} {xs : List V} {R : L2.St → Hp → Prop} (h : H p = some (.tup xs)) (l : xs.length = n) (q : gs xs σ H R) : gTup K n gs (.ref p) σ H R := ⟨p, xs, rfl, .inl (.inl h), l, q⟩
theorem w_setLu {xs ys : List V} {k : Int} {j : Nat} {R : Hp → Prop} {H0 : Hp} (e : ixN xs.length k = some j) (e2 : xs.set j v = ys) (q : R (upd H0 p (.lst ys))) : rSetL (.ref p) (.int k) v (upd H0 p (.lst xs)) R := ⟨p, xs, k, j, rfl, rfl, upd_same, e, by rw [upd_upd, e2]; exact q⟩
theorem w_setLh {xs ys : List V} {k : Int} {j : Nat} {R : Hp → Prop} (h : H p = some (.lst xs)) (e : ixN xs.length k = some j) (e2 : xs.set j v = ys) (q : R (upd H p (.lst ys))) : rSetL (.ref p) (.int k) v H R := ⟨p, xs, k, j, rfl, rfl, h, e, by rw [e2]; exact q⟩
theorem w_lenL {xs : List V} {R : V → Prop} (h : SqL K H p xs) (q : R (.int xs.length)) : ∃ a ys, [V.ref p] = [.ref a] ∧ (SqL K H a ys ∨ SqT K H a ys) ∧ R (.int ys.length) := ⟨p, xs, rfl, .inl h, q⟩
theorem w_lenT {xs : List V} {R : V → Prop} (h : SqT K H p xs) (q : R (.int xs.length)) : ∃ a ys, [V.ref p] = [.ref a] ∧ (SqL K H a ys ∨ SqT K H a ys) ∧ R (.int ys.length) := ⟨p, xs, rfl, .inr h, q⟩
theorem upd_skip {a b : Addr} {o : HO} {u : Option HO} (h : a ≠ b) (e : H a = u) : (upd H b o) a = u := by rw [upd_ne h]; exact e
section
variable {c A B : Prop} [Decidable c]
theorem w_ite (h1 : c → A) (h2 : ¬ c → B) : if decide c = true then A else B := by
  by_cases h : c
  · rw [if_pos (decide_eq_true h)]; exact h1 h
  · rw [if_neg (fun z => h (of_decide_eq_true z))]; exact h2 h
theorem w_iteN (h1 : ¬ c → A) (h2 : c → B) : if (!decide c) = true then A else B := by
  by_cases h : c
  · rw [decide_eq_true h]; exact h2 h
  · rw [decide_eq_false h]; exact h1 h
theorem w_iteT (h : c) (q : A) : if decide c = true then A else B := by rw [if_pos (decide_eq_true h)]; exact q
theorem w_iteF (h : ¬ c) (q : B) : if decide c = true then A else B := by rw [if_neg (fun z => h (of_decide_eq_true z))]; exact q
theorem w_iteNT (h : ¬ c) (q : A) : if (!decide c) = true then A else B := by rw [decide_eq_false h]; exact q
theorem w_iteNF (h : c) (q : B) : if (!decide c) = true then A else B := by rw [decide_eq_true h]; exact q
theorem w_iteb {k : Bool} (h1 : k = true → A) (h2 : k = false → B) : if k = true then A else B := by
  cases k with
  | true => exact h1 rfl
  | false => exact h2 rfl
theorem w_ibT (q : A) : if true = true then A else B := q
theorem w_ibF (q : B) : if false = true then A else B := q
theorem w_ibNT (q : A) : if (!false) = true then A else B := q
theorem w_ibNF (q : B) : if (!true) = true then A else B := q
end
theorem upd_fresh {a b : Addr} {o : HO} (h : H a = none) (h' : H b = some o) {u : HO} (hu : upd H b u a = none) : True := trivial
theorem fresh_of {a b : Addr} {u : HO} (h : (upd H b u) a = none) : a ≠ b ∧ H a = none := by
  by_cases e : a = b
  · subst e; rw [upd_same] at h; cases h
  · rw [upd_ne e] at h; exact ⟨e, h⟩
theorem pick {ns : List Int} {k : Int} (h0 : 0 ≤ k) (h : k < ns.length) : ∃ z, atI (ns.map V.int) k = some (.int z) ∧ z ∈ ns := by
  obtain ⟨j, rfl⟩ := Int.eq_ofNat_of_zero_le h0
  have hj : j < ns.length := by omega
  refine ⟨ns[j], atI_nat (j := j) ?_, List.getElem_mem hj⟩
  rw [List.getElem?_map, List.getElem?_eq_getElem hj]
  rfl
theorem w_isi {c x : V} {ty u : Value} {b : Bool} (hc : ClsV c u) (ht : TyX K H x ty) (e : PySem.W.kitOne K ty u = some b) (q : Q (.bl b) H) : rIsi K [x, c] H Q := ⟨x, c, ty, u, b, rfl, hc, ht, e, q⟩
theorem w_isi_ii {a : Int} (q : Q (.bl true) H) : rIsi K [.int a, .ty "int"] H Q := w_isi (.ty _) (.base (.int _)) (kit_ty (by decide +kernel)) q
theorem w_isi_ib {a : Int} (q : Q (.bl false) H) : rIsi K [.int a, .ty "bool"] H Q := w_isi (.ty _) (.base (.int _)) (kit_ty (by decide +kernel)) q
theorem w_isi_bb {a : Bool} (q : Q (.bl true) H) : rIsi K [.bl a, .ty "bool"] H Q := w_isi (.ty _) (.base (.bl _)) (kit_ty (by decide +kernel)) q
theorem w_isi_bi {a : Bool} (q : Q (.bl true) H) : rIsi K [.bl a, .ty "int"] H Q := w_isi (.ty _) (.base (.bl _)) (kit_ty (by decide +kernel)) q
theorem w_isi_ss {a : Str} (q : Q (.bl true) H) : rIsi K [.str a, .ty "str"] H Q := w_isi (.ty _) (.base (.str _)) (kit_ty (by decide +kernel)) q
theorem w_isi_is {a : Int} (q : Q (.bl false) H) : rIsi K [.int a, .ty "str"] H Q := w_isi (.ty _) (.base (.int _)) (kit_ty (by decide +kernel)) q
theorem w_isi_tt {xs : List V} (h : H p = some (.tup xs)) (q : Q (.bl true) H) : rIsi K [.ref p, .ty "tuple"] H Q := w_isi (.ty _) (.base (.tup h)) (kit_ty (by decide +kernel)) q
theorem w_isi_tl {xs : List V} (h : H p = some (.tup xs)) (q : Q (.bl false) H) : rIsi K [.ref p, .ty "list"] H Q := w_isi (.ty _) (.base (.tup h)) (kit_ty (by decide +kernel)) q
theorem w_isi_ll {xs : List V} (h : H p = some (.lst xs)) (q : Q (.bl true) H) : rIsi K [.ref p, .ty "list"] H Q := w_isi (.ty _) (.base (.lst h)) (kit_ty (by decide +kernel)) q
theorem w_isi_lt {xs : List V} (h : H p = some (.lst xs)) (q : Q (.bl false) H) : rIsi K [.ref p, .ty "tuple"] H Q := w_isi (.ty _) (.base (.lst h)) (kit_ty (by decide +kernel)) q
theorem w_isi_ti {xs : List V} (h : H p = some (.tup xs)) (q : Q (.bl false) H) : rIsi K [.ref p, .ty "int"] H Q := w_isi (.ty _) (.base (.tup h)) (kit_ty (by decide +kernel)) q
theorem w_isi_tb {xs : List V} (h : H p = some (.tup xs)) (q : Q (.bl false) H) : rIsi K [.ref p, .ty "bool"] H Q := w_isi (.ty _) (.base (.tup h)) (kit_ty (by decide +kernel)) q
theorem w_isi_ts {xs : List V} (h : H p = some (.tup xs)) (q : Q (.bl false) H) : rIsi K [.ref p, .ty "str"] H Q := w_isi (.ty _) (.base (.tup h)) (kit_ty (by decide +kernel)) q
theorem w_isi_li {xs : List V} (h : H p = some (.lst xs)) (q : Q (.bl false) H) : rIsi K [.ref p, .ty "int"] H Q := w_isi (.ty _) (.base (.lst h)) (kit_ty (by decide +kernel)) q
theorem w_isi_lb {xs : List V} (h : H p = some (.lst xs)) (q : Q (.bl false) H) : rIsi K [.ref p, .ty "bool"] H Q := w_isi (.ty _) (.base (.lst h)) (kit_ty (by decide +kernel)) q
theorem w_isi_ls {xs : List V} (h : H p = some (.lst xs)) (q : Q (.bl false) H) : rIsi K [.ref p, .ty "str"] H Q := w_isi (.ty _) (.base (.lst h)) (kit_ty (by decide +kernel)) q
theorem w_gcd {a b : Int} (q : Q (.int (Nat.gcd a.natAbs b.natAbs : Nat)) H) : rGcd [.int a, .int b] H Q := ⟨a, b, rfl, q⟩
theorem w_callN {n m : Nat} {sp : Sp} {gV : List V → List V → List V} {E : XK} {t1 t2 : TA} (h : t1 σ H fun vs H1 => t2 σ H1 fun zs H2 => vs.length = n ∧ zs.length = m ∧ sp (gV vs zs) H2 Q E) : tCallN n m sp gV E t1 t2 σ H Q := h
theorem w_callS {sp : Sp} {E : L2.St → XK} {t1 : TA} (h : t1 σ H fun vs H1 => sp vs H1 Q (E σ)) : tCallS sp E t1 σ H Q := h
theorem same_of {H H' : Hp} {p : Addr} {o : HO} (s : Same H H') (n : H' p = none) : Same H (upd H' p o) := fun b x e => by
  rw [upd_ne (ne_of_none (s b x e) n)]
  exact s b x e
theorem same_mut {H H' : Hp} {p : Addr} {o : HO} (s : Same H H') (n : H p = none) : Same H (upd H' p o) := fun b x e => by
  rw [upd_ne (ne_of_none e n)]
  exact s b x e
theorem w_dnew (h : ∀ d, H d = none → Q (.ref d) (upd H d (.dK []))) : tDNewK σ H Q := h
theorem w_dput {td ty tv : TE} (h : tv σ H fun v H1 => td σ H1 fun x H2 => ty σ H2 fun y H3 => ∃ a H4, x = .ref a ∧ DPut H3 a y v H4 ∧ D.nx σ H4) : sDPut td ty tv D σ H := h
theorem w_din {ty td : TE} (h : ty σ H fun y H1 => td σ H1 fun x H2 => ∃ a o, x = .ref a ∧ DGet H2 a y o ∧ Q (.bl o.isSome) H2) : tDIn ty td σ H Q := h
theorem w_dnin {ty td : TE} (h : ty σ H fun y H1 => td σ H1 fun x H2 => ∃ a o, x = .ref a ∧ DGet H2 a y o ∧ Q (.bl (!o.isSome)) H2) : tDNotIn ty td σ H Q := h
theorem w_iTup {tl : TE} {R : It → Hp → Prop} (h : tl σ H fun x H1 => ∃ a, x = .ref a ∧ (∃ xs, SqT K H1 a xs) ∧ R (Itt K a) H1) : iTup K tl σ H R := h
theorem w_iList {tl : TE} {R : It → Hp → Prop} (h : tl σ H fun x H1 => ∃ a, x = .ref a ∧ (∃ xs, SqL K H1 a xs) ∧ R (Itl K a) H1) : iList K tl σ H R := h
theorem w_lc {wi : TI} {ivs : List Nat} (h : wi σ H fun J H1 => ∀ Dl, H1 Dl = none → ∃ W : Nat → Nat → Hp → Prop, (∃ m, W 0 m (upd H1 Dl (.lst []))) ∧ ∀ i m H, W i m H →
  (J.stop i H ∧ Q (.ref Dl) H) ∨ (J.go i H ∧ ∃ Nx : Hp → Prop, (∀ H', Nx H' → ∃ m', m' < m ∧ W (i + 1) m' H') ∧ ∀ x H', J.yld i H x H' → g x (wipe σ ivs) H' fun σ2 H2 => wipe σ2 ivs = wipe σ ivs ∧ tt σ2 H2 fun b H3 =>
    if b = true then te σ2 H3 fun y H4 => ∃ acc, H4 Dl = some (.lst acc) ∧ acc.length < sizeLine ∧ Nx (upd H4 Dl (.lst (acc ++ [y]))) else Nx H3)) : tLc wi g tt te ivs σ H Q := h
theorem w_yes {R : Bool → Hp → Prop} (h : R true H) : tYes σ H R := h
theorem w_opin {neg : Bool} {xs : List V} (hs : SqL K H p xs ∨ SqT K H p xs) (hx : flatV x = true) (ha : xs.all flatV = true) (q : Q (.bl (if neg then !inV x xs else inV x xs)) H) : rIn K neg x (.ref p) H Q := ⟨p, xs, rfl, hs, hx, ha, q⟩
theorem w_isN (q : Q (.bl (decide (x = .non))) H) : (V.non = V.non ∧ Q (.bl (decide (x = .non))) H) := ⟨rfl, q⟩
theorem w_bm {T : String} {r : V → List V → Hp → VK → Prop} {to : TE} {tl : TA} (h : to σ H fun x H1 => tyV K T x H1 ∧ tl σ H1 fun xs H2 => r x xs H2 Q) : tBM K T r to tl σ H Q := h
theorem w_tyL {xs : List V} {R : Prop} (h : H p = some (.lst xs)) (q : R) : tyV K "list" (.ref p) H ∧ R := ⟨Or.inl ⟨rfl, xs, .inl (.inl h)⟩, q⟩
theorem w_app {xs : List V} (h : H p = some (.lst xs)) (l : xs.length < 100000) (q : Q .non (upd H p (.lst (xs ++ [v])))) : rAppend (.ref p) [v] H Q := ⟨p, xs, v, rfl, rfl, h, Nat.lt_of_lt_of_le l (by decide), q⟩
theorem w_bm0 {T : String} {r : V → List V → Hp → VK → Prop} {to : TE} (h : to σ H fun x H1 => tyV K T x H1 ∧ r x [] H1 Q) : tBM0 K T r to σ H Q := h
theorem w_rev {xs : List V} (h : H p = some (.lst xs)) (q : Q .non (upd H p (.lst xs.reverse))) : rReverse (.ref p) [] H Q := ⟨p, xs, rfl, rfl, h, q⟩
/-- pools -/
def IsPool (o : HO) : Prop := ∃ (c k : Int) (b : Bool) (s : Int), o = .lst [.int c, .int k, .bl b, .int s]
theorem upd_of {a b : Addr} {o : HO} (h : H b = none) {u : HO} (e : H a = some u) : (upd H b o) a = some u := by rw [upd_ne (ne_of_none e h)]; exact e
end Z
local macro_rules | `(tactic| walk_at "sz") => `(tactic| first | omega | (split <;> omega) | ((repeat' split) <;> omega) | (simp only [List.length_map]; (repeat' split) <;> omega))
local macro_rules | `(tactic| walk_at "hp") => `(tactic| first
  | assumption
  | exact L2.upd_same
  | ((refine' Z.upd_of ?h1 ?h2); (case h1 => assumption); (case h2 => walk_at "hp"))
  | ((refine' Z.upd_skip ?h1 ?h2); (case h1 => first | assumption | (apply Ne.symm; assumption)); (case h2 => walk_at "hp")))
local macro_rules | `(tactic| walk_at "cond") => `(tactic| first
  | exact L2.wide_mul (a := 200) (b := 200) (by omega) (by omega) (by decide) (by decide) (by decide)
  | exact L2.wide_div (b := 200) (by omega) (by omega) (by decide) (by decide)
  | exact ⟨by omega, by omega⟩
  | omega
  | exact (show (0 : Int) < _ by omega)
  | exact Or.inl ⟨by omega, by omega⟩
  | exact Or.inr ⟨by omega, by omega⟩
  | exact ⟨by omega, by omega, by decide⟩)
local macro_rules | `(tactic| walk_at "same") => `(tactic| first
  | assumption
  | exact L2.Same.refl _
  | (refine Z.same_of ?_ (by assumption); walk_at "same")
  | (refine Z.same_mut ?_ (by assumption); walk_at "same")
  | exact L2.Same.trans (by assumption) (by walk_at "same"))
local macro_rules | `(tactic| walk_at "seq") => `(tactic| first
  | assumption
  | (refine Or.inl (Or.inl ?_); walk_at "hp")
  | ((refine' L2.Same.seq ?se ?sh); (case sh => assumption); (case se => walk_at "same"))
  | ((refine' Evl.ex_t ?se ?sh); (case sh => assumption); (case se => walk_at "same")))
local macro_rules | `(tactic| walk_at "ar") => `(tactic| first
  | omega
  | (simp only [List.length_map, List.length_cons, List.length_nil]; omega))
local macro_rules | `(tactic| walk_at "w1") => `(tactic| first
  | with_reducible refine Z.w_seq ?_
  | with_reducible refine Z.w_asg ?_
  | with_reducible refine Z.w_op ?_
  | ((with_reducible refine' Z.w_var ?wv ?_); case wv => exact rfl)
  | with_reducible refine Z.w_c ?_
  | with_reducible refine Z.w_rI0 ?_
  | ((with_reducible refine' Z.w_gname ?we ?_); case we => (simp only [List.set_cons_zero, List.set_cons_succ] <;> rfl))
  | with_reducible refine Z.w_cons ?_
  | with_reducible refine Z.w_nil ?_
  | with_reducible refine Z.w_ifs ?_
  | with_reducible refine Z.w_test ?_
  | with_reducible refine Z.w_B ?_
  | with_reducible refine Z.w_bl ?_
  | with_reducible refine Z.w_rEqI ?_
  | with_reducible refine Z.w_rNeI ?_
  | with_reducible refine Z.w_cb ?_
  | with_reducible refine Z.w_call0 ?_
  | with_reducible refine Z.w_call ?_
  | with_reducible refine Z.w_isi_ii ?_
  | with_reducible refine Z.w_isi_ib ?_
  | with_reducible refine Z.w_isi_bb ?_
  | with_reducible refine Z.w_isi_bi ?_
  | with_reducible refine Z.w_isi_ss ?_
  | with_reducible refine Z.w_isi_is ?_
  | ((with_reducible refine' Z.w_isi_tt ?wh ?_); (case wh => walk_at "hp"))
  | ((with_reducible refine' Z.w_isi_tl ?wh ?_); (case wh => walk_at "hp"))
  | ((with_reducible refine' Z.w_isi_ll ?wh ?_); (case wh => walk_at "hp"))
  | ((with_reducible refine' Z.w_isi_lt ?wh ?_); (case wh => walk_at "hp"))
  | ((with_reducible refine' Z.w_isi_ti ?wh ?_); (case wh => walk_at "hp"))
  | ((with_reducible refine' Z.w_isi_tb ?wh ?_); (case wh => walk_at "hp"))
  | ((with_reducible refine' Z.w_isi_ts ?wh ?_); (case wh => walk_at "hp"))
  | ((with_reducible refine' Z.w_isi_li ?wh ?_); (case wh => walk_at "hp"))
  | ((with_reducible refine' Z.w_isi_lb ?wh ?_); (case wh => walk_at "hp"))
  | ((with_reducible refine' Z.w_isi_ls ?wh ?_); (case wh => walk_at "hp"))
  | with_reducible refine Z.w_tand ?_
  | with_reducible refine Z.w_tor ?_
  | with_reducible refine Z.w_tnot ?_
  | with_reducible refine Z.w_ret ?_
  | with_reducible refine Z.w_next ?_
  | with_reducible refine Z.w_un ?_
  | with_reducible refine Z.w_rU ?_
  | with_reducible refine Z.w_tup ?_
  | with_reducible refine Z.w_lst ?_
  | with_reducible refine Z.w_par ?_
  | ((with_reducible refine' Z.w_par2 ?we ?_); case we => (simp only [List.set_cons_zero, List.set_cons_succ] <;> rfl))
  | with_reducible refine Z.w_gsub ?_
  | with_reducible refine Z.w_andV ?_
  | with_reducible refine Z.w_orV ?_
  | with_reducible refine Z.w_notV ?_
  | with_reducible refine Z.w_ifV ?_
  | with_reducible refine Z.w_drop ?_
  | with_reducible refine Z.w_break ?_
  | with_reducible refine Z.w_cont ?_
  | with_reducible refine Z.w_gcons ?_
  | with_reducible refine Z.w_gnil ?_
  | with_reducible refine Z.w_for ?_
  | with_reducible refine Z.w_rng1 ?_
  | with_reducible refine Z.w_bits ?_
  | with_reducible refine Z.w_callN ?_
  | with_reducible refine Z.w_callS ?_
  | with_reducible refine Z.w_gcd ?_
  | with_reducible refine Z.w_dnew (fun d hd => ?_)
  | with_reducible refine Z.w_dput ?_
  | with_reducible refine Z.w_din ?_
  | with_reducible refine Z.w_dnin ?_
  | with_reducible refine Z.w_iTup ?_
  | with_reducible refine Z.w_iList ?_
  | with_reducible refine Z.w_lc ?_
  | with_reducible refine Z.w_yes ?_
  | ((with_reducible refine' ⟨_, rfl, ⟨_, ?wh⟩, ?_⟩); (case wh => walk_at "seq"))
  | with_reducible refine Z.w_ex1 ?_
  | ((with_reducible refine' Z.w_ixH ?wh ?wa ?_); (case wh => walk_at "hp"); (case wa => exact rfl))
  | ((with_reducible refine' Z.w_ixTH ?wh ?wa ?_); (case wh => walk_at "hp"); (case wa => exact rfl))
  | ((with_reducible refine' Z.w_gtupH ?wh ?wa ?_); (case wh => walk_at "hp"); (case wa => exact rfl))
  | ((with_reducible refine' Z.w_setLu ?wh ?wa ?_); (case wh => exact rfl); (case wa => (simp only [Int.reduceToNat, List.set_cons_zero, List.set_cons_succ] <;> rfl)))
  | ((with_reducible refine' Z.w_setLh ?wg ?wh ?wa ?_); (case wg => walk_at "hp"); (case wh => exact rfl); (case wa => (simp only [Int.reduceToNat, List.set_cons_zero, List.set_cons_succ] <;> rfl)))
  | ((with_reducible refine Z.w_rI ?wc ?_); (case wc => walk_at "cond"))
  | with_reducible refine Or.inl ⟨_, rfl, ?_⟩
  | with_reducible refine Or.inr ⟨_, rfl, ?_⟩
  | ((with_reducible refine' ⟨_, _, rfl, Or.inl ?wh, ?_⟩); (case wh => walk_at "seq"))
  | ((with_reducible refine' ⟨_, _, rfl, Or.inr ?wh, ?_⟩); (case wh => walk_at "seq"))
  | ((with_reducible refine' Z.w_ixL ?wh ?wa ?_); (case wh => assumption); (case wa => assumption))
  | with_reducible refine ⟨_, rfl, ?_⟩
  | with_reducible refine ⟨_, _, rfl, ?_⟩
  | ((with_reducible refine ⟨?wl, fun q hq' => ?_⟩); (case wl => exact Z.sz4 (by simp)))
  | with_reducible refine Z.w_ibT ?_
  | with_reducible refine Z.w_ibF ?_
  | with_reducible refine Z.w_ibNT ?_
  | with_reducible refine Z.w_ibNF ?_
  | ((with_reducible refine Z.w_iteT ?wh ?_); (case wh => walk_at "ar"))
  | ((with_reducible refine Z.w_iteF ?wh ?_); (case wh => walk_at "ar"))
  | ((with_reducible refine Z.w_iteNT ?wh ?_); (case wh => walk_at "ar"))
  | ((with_reducible refine Z.w_iteNF ?wh ?_); (case wh => walk_at "ar"))
  | with_reducible refine ⟨rfl, ?_⟩
  | ((with_reducible refine' Z.w_ixH ?wh ?wa ?_); (case wh => walk_at "hp"); (case wa => assumption))
  | ((with_reducible refine' Z.w_ixTH ?wh ?wa ?_); (case wh => walk_at "hp"); (case wa => assumption))
  | ((with_reducible refine' Z.w_ixL ?wh ?wa ?_); (case wh => walk_at "seq"); (case wa => assumption))
  | ((with_reducible refine' Z.w_ixT ?wh ?wa ?_); (case wh => walk_at "seq"); (case wa => assumption))
  | ((with_reducible refine Z.w_iteF ?wh ?_); (case wh => (intro h; cases h; done)))
  | ((with_reducible refine Z.w_iteT ?wh ?_); (case wh => exact rfl))
  | fail "w1")
local macro_rules | `(tactic| walk_at "wi") => `(tactic| first
  | with_reducible refine Z.w_ite (fun hc => ?_) (fun hc => ?_)
  | with_reducible refine Z.w_iteN (fun hc => ?_) (fun hc => ?_)
  | with_reducible refine Z.w_iteb (fun hc => ?_) (fun hc => ?_))
local macro_rules | `(tactic| walk_at "w") => `(tactic| repeat' walk_at "w1")
namespace OWN
open PySem PySem.Spec PyProof.Rows L2
section
variable {prog : Program} {w : World} {A : Around} {E : Value → Shared → Prop} {s : Shared}
theorem next_endG {it l : Addr} {i : Nat} {items : Array Value} {Q : Option Value → Shared → Prop} (hh : A.handled = none)
    (hit : s.heap.get? it = some (GNX.itObj l i)) (hl : s.heap.IsList l items) (hx : items[i]? = none)
    (hQ : ∀ h', Heap.ExtBut it s.heap h' → h'.get? it = some (GNX.itEnd i) → Q none { s with heap := h' }) : wpAny (model prog w) A (pyNext (.ref it)) Q E s := by
  have hT : s.TypeIs (.ref it) "list_iterator" := ⟨_, hit, rfl⟩
  obtain ⟨ol, hol, _, nl, hdl⟩ := hl
  unfold pyNext
  refine wpAny_bind (wpAny_attempt (wpAny_callSpecial?_slot (name := Str.ofString "__next__") hT slot_listiter_next
    (wpAny_call_entry slot_listiter_next hT entry_listiter_next ?_ (args_listiter_next _))))
  show wpAny _ _ (field (.ref it) 0 >>= _) _ _ s
  refine wpAny_bind (wpAny_field hit rfl (x := .ref l) rfl ?_)
  show wpAny _ _ (if (Value.ref l == Value.none) = true then _ else _) _ _ s
  rw [if_neg (show ¬ ((Value.ref l == Value.none) = true) from Bool.false_ne_true)]
  show wpAny _ _ (field (.ref it) 1 >>= _) _ _ s
  refine wpAny_bind (wpAny_field hit rfl (x := .int i 0) rfl ?_)
  show wpAny _ _ (seqItems? (.ref l) >>= _) _ _ s
  refine wpAny_bind (wpAny_seqItems hol hdl ?_)
  simp only [Int.toNat_natCast, hx]
  refine wpAny_bind (wpAny_rule (wpAny_bind (wpAny_setField hit rfl (by simp) ?_)))
  have hit2 : (s.heap.update it (Obj.mapFields (·.setIfInBounds 0 Value.none))).get? it = some (GNX.itEnd i) := by
    rw [Heap.get?_update_self _ hit (by rfl)]
    exact congrArg some (GNX.end_obj l i)
  show wpAny _ _ (newExc (.type "StopIteration") [] >>= _) _ _ _
  refine wpAny_bind ?_
  simp only [newExc, newTuple]
  refine wpAny_bind (wpAny_newObj_type ?_ (by size_fits))
  refine wpAny_bind (m := firstArgMember _ _) (wpAny_of_eq (a := Value.none) (by first | rfl | (simp only [firstArgMember]; rfl)) ?_)
  refine wpAny_newObj_type ?_ (by size_fits)
  simp only [raiseNew]
  refine wpAny_bind (wpAny_handled ?_)
  rw [show A.in1.handled = none from hh]
  refine wpAny_bind (wpAny_pure (wpAny_throw ?_))
  refine wpAny_bind (wpAny_isInstance (T := "StopIteration") (b := true) ⟨_, Heap.get?_push_size _ rfl, rfl⟩ isSubtype_stop ?_)
  exact wpAny_pure (hQ _ (((Heap.SameBut.update ..).extBut.push _).push _) (Heap.get?_push_of_some _ (Heap.get?_push_of_some _ hit2)))
theorem next_itemG {it l : Addr} {i : Nat} {items : Array Value} {x : Value} {Q : Option Value → Shared → Prop} (hit : s.heap.get? it = some (GNX.itObj l i))
    (hl : s.heap.IsList l items) (hx : items[i]? = some x)
    (hQ : ∀ h', h'.get? it = some (GNX.itObj l (i + 1)) → Heap.SameBut it s.heap h' → Q (some x) { s with heap := h' }) : wpAny (model prog w) A (pyNext (.ref it)) Q E s := by
  have hT : s.TypeIs (.ref it) "list_iterator" := ⟨_, hit, rfl⟩
  unfold pyNext
  refine wpAny_bind (wpAny_attempt (wpAny_callSpecial?_slot (name := Str.ofString "__next__") hT slot_listiter_next
    (wpAny_call_entry slot_listiter_next hT entry_listiter_next ?_ (args_listiter_next _))))
  exact GNX.next_item (Q := fun v s' => wpAny _ _ _ _ _ s') hit hl hx fun h' h1 h2 => wpAny_pure (hQ h' h1 h2)
end
section
variable {X : Cx} {pins : List (Addr × Obj)} {σ : L2.St} {H : Hp} {s : Shared} {C fl fi a : Addr} {n : Nat} {A1 : Around}
/-- a call of an own def with one argument, from within a built-in -/
theorem own_call {f : Addr} {fd : FuncData} {ps : List Str} {sp : Sp} {EI : XK} {Q : VK} {Ex : Value → Shared → Prop} (sb : Sub X n A1) (F : FnOk X.prog X.w X.K X.mg X.base CX0 n f fd ps sp) (b : Binds X.K fd ps []) (I : Inv X pins σ H s) (hsp : sp [.ref a] H Q EI) :
    wpAny (model X.prog X.w) A1 (call (.ref f) [.ref a]) (fun u s' => ∃ v H', Inv X pins σ H' s' ∧ RelV v u ∧ Q v H') Ex s := by
  have e0 : Env0 X.prog X.w X.K X.mg X.base A1 X.stack s H := by
    have e := I.env0
    exact ⟨by rw [sb.fr]; exact e.frames, e.mod, e.bs, e.bsz, e.funs, e.frf, e.hok, e.bare⟩
  have hl := F.len _ _ _ _ hsp
  have r2 : Vals [V.ref a] [Value.ref a] := .cons rfl .nil
  refine wpAny_call (codeAny_mono (F.run A1 X.stack s H ⟨[.ref a], []⟩ [.ref a] [.ref a] Q EI sb.room e0 (by
    have := b s [.ref a] I.kIn (by simpa using hl)
    simpa using this) r2 hsp) fun r s' hq => ?_)
  cases r with
  | error e => exact False.elim hq
  | ok fl =>
    cases fl with
    | ret u => exact I.after hq
    | next => exact False.elim hq
    | brk => exact False.elim hq
    | cont => exact False.elim hq
/-- an own __len__ -/
structure LnC (K : PySem.W.Frag) (C fl : Addr) : Prop where
  ln : PySem.W.findIn K (.ref C) "__len__" = some (some (.ref fl))
  lt : PySem.W.typeIn K (.ref fl) = some (.type "function")
theorem own_len {fd : FuncData} {ps : List Str} {sp : Sp} {Q : VK} {dx : Addr} {fs : List (Str × V)} {Ex : Value → Shared → Prop} (sb : Sub X n A1.in1) (hc : LnC X.K C fl) (F : FnOk X.prog X.w X.K X.mg X.base CX0 n fl fd ps sp) (b : Binds X.K fd ps []) (I : Inv X pins σ H s) (ha : H a = some (.ins C dx fs))
    (hsp : sp [.ref a] H (fun v H' => ∃ k : Nat, v = .int k ∧ k < 2 ^ 60 ∧ Q (.int k) H') E0) :
    wpAny (model X.prog X.w) A1 (call (.builtin "len") [.ref a]) (fun u s' => ∃ (k : Nat) (tk : Tok) (H' : Hp), u = .int k tk ∧ k < 2 ^ 60 ∧ Inv X pins σ H' s' ∧ Q (.int k) H') Ex s := by
  obtain ⟨mA, J, _⟩ := ins_get I.hok ha
  obtain ⟨od, J, _⟩ := J.look
  refine Calls.call_function_entry kind_len plain_len entry_len (args_len1 _) ?_
  unfold Builtin.«len»
  refine wpAny_bind (m := oneArg "len" _) (wpAny_pure ?_)
  refine wpAny_bind (m := callSpecial? (.ref a) (Str.ofString "__len__")) (PySem.W.special_fn (name := "__len__") (args := []) I.kIn J hc.ln hc.lt ?_)
  refine wpAny_mono (own_call sb F b I hsp) (fun u s' hu => ?_) fun _ _ z => z
  obtain ⟨v, H', I', r, k, rfl, hk, q⟩ := hu
  obtain ⟨t, rfl⟩ := (show ∃ t, u = Value.int k t from r)
  show wpAny _ _ _ _ _ _
  refine wpAny_bind (wpAny_holding (wpAny_pure ?_))
  refine wpAny_bind (wpAny_letGo ?_)
  show wpAny _ _ (if (k : Int) < 0 then _ else _) _ _ _
  rw [if_neg (by omega)]
  show wpAny _ _ (if (k : Int) ≥ 2 ^ 63 then _ else _) _ _ _
  rw [if_neg (by omega)]
  exact wpAny_bind (wpAny_mkInt (wpAny_pure ⟨_, rfl, k, _, H', rfl, hk, I'.kept (t' := _) (fun _ _ z => z), q⟩))
def rLenOwn (C : Addr) (sp : Sp) : List V → Hp → VK → Prop := fun xs H Q => ∃ (a dx : Addr) (fs : List (Str × V)), xs = [.ref a] ∧ H a = some (.ins C dx fs) ∧ sp [.ref a] H (fun v H' => ∃ k : Nat, v = .int k ∧ k < 2 ^ 60 ∧ Q (.int k) H') E0
/-- len(o) -/
theorem call_lenOwn {fd : FuncData} {ps : List Str} {sp : Sp} (hc : LnC X.K C fl) (F : FnOk X.prog X.w X.K X.mg X.base CX0 n fl fd ps sp) (b : Binds X.K fd ps []) (hr : Room (n + 1) X.A) : CallR X (.builtin "len") (rLenOwn C sp) := by
  intro pins s σ H xs us Q I rv h
  obtain ⟨a, dx, fs, rfl, ha, hsp⟩ := h
  obtain ⟨u, rfl, ru⟩ := rv.one
  cases ru
  refine wpAny_mono (own_len (Sub.in1 (⟨hr, rfl⟩ : Sub X (n + 1) X.A)) hc F b I ha hsp) (fun u s' hu => ?_) fun _ _ z => z
  obtain ⟨k, tk, H', rfl, hk, I', q⟩ := hu
  exact ⟨.int k, H', I', ⟨_, rfl⟩, q⟩
/-- an own __iter__ that gives an iterator over a list, and an own __len__ -/
structure ItB (K : PySem.W.Frag) (C fi fl : Addr) : Prop where
  it : PySem.W.findIn K (.ref C) "__iter__" = some (some (.ref fi))
  itF : PySem.W.isFn K (.ref fi) = true
  ln : LnC K C fl
theorem upd_swap {H : Hp} {q it : Addr} {o1 o2 o3 o4 : HO} (h : q ≠ it) : upd (upd (upd (upd H q o1) it o2) it o3) q o4 = upd (upd H q o4) it o3 := by
  funext b
  by_cases h1 : b = q
  · subst h1
    rw [upd_same, upd_ne h, upd_same]
  · rw [upd_ne h1]
    by_cases h2 : b = it
    · subst h2
      rw [upd_same, upd_same]
    · rw [upd_ne h2, upd_ne h2, upd_ne h1, upd_ne h2, upd_ne h1]
theorem sqL_upd {K : PySem.W.Frag} {H : Hp} {l b : Addr} {o : HO} {xs : List V} (h : SqL K H l xs) (n : l ≠ b) : SqL K (upd H b o) l xs := by
  rcases h with (h | ⟨o', h⟩) | h
  · exact .inl (.inl (by rw [upd_ne n]; exact h))
  · exact .inl (.inr ⟨o', by rw [upd_ne n]; exact h⟩)
  · exact .inr h
theorem it_loop {q l it : Addr} {ys : List V} {H0 : Hp} {Rs : Result → Shared → Prop} (hh : A1.in1.handled = none) (hS : SqL X.K H0 l ys) (n1 : l ≠ q) (n2 : l ≠ it) (n3 : q ≠ it) (hz : ys.length ≤ sizeLine)
    (hdone : ∀ s, Inv X pins σ (upd (upd H0 q (.lst ys)) it (ItE it ys.length)) s → Rs (.ok (.ret .none)) s) :
    ∀ (m i : Nat) (s : Shared), m = ys.length - i → i ≤ ys.length → Inv X pins σ (upd (upd H0 q (.lst (ys.take i))) it (ItO l it i)) s → codeAny (model X.prog X.w) A1 (.builtin "list.extend.loop" ⟨[.ref q, .ref it, .none], []⟩) Rs s := by
  intro m
  induction m with
  | zero =>
    intro i s hm hi I
    have e : i = ys.length := by omega
    subst e
    refine codeAny_builtin PySem.F.entry_extend_loop ?_
    rw [Around.under_plainId PySem.F.plain_extend_loop _]
    show wpAny _ A1.in1 (pyNext (.ref it) >>= _) _ _ s
    have hit := (I.hok it _ upd_same).1
    obtain ⟨its, rv, pl, _⟩ := I.list (sqL_upd (sqL_upd hS n1) n2)
    have hlen := rv.length
    refine wpAny_bind (next_endG hh hit pl.isList (by simp [hlen]) fun h' hx he => ?_)
    refine wpAny_pure (hdone _ ?_)
    have I1 : Inv X pins σ (upd (upd (upd H0 q (.lst (ys.take ys.length))) it (ItO l it ys.length)) it (ItE it ys.length)) { s with heap := h' } :=
      I.write (x := it) (e := it) (t' := s.toks) (by rw [upd_same]; exact trivial) (.inl rfl) (fun b u hb e => hx b u hb e) ⟨_, he⟩ (itE_ok he)
    rw [upd_upd, List.take_length] at I1
    exact I1
  | succ m ih =>
    intro i s hm hi I
    have hlt : i < ys.length := by omega
    refine codeAny_builtin PySem.F.entry_extend_loop ?_
    rw [Around.under_plainId PySem.F.plain_extend_loop _]
    show wpAny _ A1.in1 (pyNext (.ref it) >>= _) _ _ s
    have hit := (I.hok it _ upd_same).1
    obtain ⟨its, rv, pl, _⟩ := I.list (sqL_upd (sqL_upd hS n1) n2)
    have hlen := rv.length
    obtain ⟨u, hu, ru⟩ := rv.get (List.getElem?_eq_getElem hlt)
    refine wpAny_bind (next_itemG hit pl.isList (x := u) (by simpa using hu) fun h' he hx => ?_)
    have I1 : Inv X pins σ (upd (upd (upd H0 q (.lst (ys.take i))) it (ItO l it i)) it (ItO l it (i + 1))) { s with heap := h' } :=
      I.write (x := it) (e := it) (t' := s.toks) (by rw [upd_same]; exact trivial) (.inl rfl) (fun b u hb e => (hx.2 b hb).trans e) ⟨_, he⟩ (itO_ok he)
    have hq : (upd (upd (upd H0 q (.lst (ys.take i))) it (ItO l it i)) it (ItO l it (i + 1))) q = some (.lst (ys.take i)) := by rw [upd_ne n3, upd_ne n3, upd_same]
    obtain ⟨z, is2, k, r2, hl2, e⟩ := I1.lstM hq
    have hl3 : is2.length ≤ sizeLine := by omega
    rw [List.length_take] at hl2
    show wpAny _ A1.in1 (updateSeq q (·.push u) >>= _) _ _ _
    refine wpAny_bind (wpAny_updateSeq e rfl (wpAny_pure ⟨plainId_quiet PySem.F.plain_extend_loop _, ?_⟩) (by rw [List.size_toArray]; omega) (by show (is2.toArray.push u).size ≤ sizeLine + 1; rw [Array.size_push, List.size_toArray]; omega))
    have ht : ys.take (i + 1) = ys.take i ++ [ys[i]] := by rw [List.take_add_one, List.getElem?_eq_getElem hlt]; rfl
    refine ih (i + 1) _ (by omega) hlt ?_
    have I2 := I1.lset (its' := is2 ++ [u]) (ys := ys.take (i + 1)) (t' := s.toks) (f := (·.push u)) hq e (by simp) (by rw [ht]; exact r2.append (.cons ru .nil)) (by rw [List.length_take]; omega)
    rw [upd_swap n3] at I2
    exact I2
/-- list(o) -/
def LenEnd (H : Hp) (R : Prop) : VK := fun v H' => ∃ k : Nat, v = .int k ∧ k < 2 ^ 60 ∧ (H' = H ∧ (∀ j : Nat, V.int k = .int j → j ≤ sizeLine) ∧ R)
def rListIt (K : PySem.W.Frag) (C : Addr) (spI spL : Sp) : List V → Hp → VK → Prop := fun xs H Q => ∃ (a dx : Addr) (fs : List (Str × V)), xs = [.ref a] ∧ H a = some (.ins C dx fs) ∧
  ∀ q, H q = none → spI [.ref a] (upd H q (.lst [])) (fun v H1 => ∃ (l it : Addr) (ys : List V) (Hb : Hp) (fs' : List (Str × V)) (dx' : Addr), v = .ref it ∧ H1 = upd (upd Hb q (.lst [])) it (ItO l it 0) ∧ l ≠ q ∧ l ≠ it ∧ q ≠ it ∧ ys.length ≤ 1000 ∧ SqL K Hb l ys ∧ H1 a = some (.ins C dx' fs') ∧
    spL [.ref a] H1 (LenEnd H1 (Q (.ref q) (upd (upd Hb q (.lst ys)) it (ItE it ys.length)))) E0) E0
theorem own_hintL {fd : FuncData} {ps : List Str} {sp : Sp} {dx : Addr} {fs : List (Str × V)} {Qb : Bool → Shared → Prop} {Ex : Value → Shared → Prop} (sb : Sub X n A1.in1) (hc : LnC X.K C fl) (F : FnOk X.prog X.w X.K X.mg X.base CX0 n fl fd ps sp) (b : Binds X.K fd ps []) (I : Inv X pins σ H s) (ha : H a = some (.ins C dx fs))
    {R : Prop} (hsp : sp [.ref a] H (LenEnd H R) E0) (hq : ∀ b s', R → Inv X pins σ H s' → Qb b s') :
    wpAny (model X.prog X.w) A1 (Builtin.List.listLengthHint (.ref a)) Qb Ex s := by
  obtain ⟨mA, J, _⟩ := ins_get I.hok ha
  obtain ⟨od, J, _⟩ := J.look
  unfold Builtin.List.listLengthHint
  refine wpAny_bind (wpAny_bind (J.type.here ((PySem.W.looks_findIn I.kIn hc.ln).here ?_)))
  refine PySem.W.KFB.if_not rfl ?_
  rw [if_pos (show (some (Value.ref fl)).isSome = true from rfl)]
  refine wpAny_bind (wpAny_rule ?_)
  refine wpAny_bind (wpAny_attempt (wpAny_mono (own_len (Q := fun v H' => H' = H ∧ (∀ j : Nat, v = .int j → j ≤ sizeLine) ∧ R) (Ex := fun _ _ => False) sb hc F b I ha hsp) (fun u s' hu => ?_) fun e s' he => he.elim))
  obtain ⟨k, tk, H', rfl, hk, I', rfl, hz, hR⟩ := hu
  have hz' := hz k rfl
  show wpAny _ _ _ _ _ _
  refine wpAny_bind (wpAny_pure ?_)
  show wpAny _ _ (if Builtin.List.listTooLong ((k : Int)).toNat = true then _ else pure ((k : Int) != 0)) _ _ _
  rw [if_neg (by rw [Int.toNat_natCast, notLongL hz']; exact Bool.false_ne_true)]
  exact wpAny_pure (hq _ _ hR I')
theorem listiter_next : typeLookup (.type "list_iterator") "__next__" = pure (some (.builtin "list_iterator.__next__")) := slot_listiter_next.lookup
theorem call_listIt {fdI fdL : FuncData} {psI psL : List Str} {spI spL : Sp} (hc : ItB X.K C fi fl) (FI : FnOk X.prog X.w X.K X.mg X.base CX0 n fi fdI psI spI) (bI : Binds X.K fdI psI []) (FL : FnOk X.prog X.w X.K X.mg X.base CX0 n fl fdL psL spL) (bL : Binds X.K fdL psL []) (hr : Room (n + 3) X.A) (hh : X.A.handled = none) : CallR X (.type "list") (rListIt X.K C spI spL) := by
  intro pins s σ H xs us Q I rv h
  obtain ⟨a, dx, fs, rfl, ha, hq⟩ := h
  obtain ⟨u, rfl, ru⟩ := rv.one
  cases ru
  have sb : Sub X (n + 1) X.A.in1.in1 := Sub.in1 (Sub.in1 (⟨hr, rfl⟩ : Sub X (n + 3) X.A))
  refine callType_codes (Q₁ := fun obj s₁ => obj = .ref s.heap.objs.size ∧ s₁ = { s with heap := s.heap.push { cls := .type "list", data := .seq #[] } }) PySem.F.called_list (PySem.F.typeCall_list_1 _) PySem.F.entry_list_init
    (code_list_new _ ⟨rfl, rfl⟩) fun obj s₁ h₁ => ?_
  obtain ⟨rfl, rfl⟩ := h₁
  have hS : (s.heap.push { cls := .type "list", data := .seq #[] }).get? s.heap.objs.size = some { cls := .type "list", data := .seq #[] } := Heap.get?_push_size _ rfl
  refine ⟨⟨_, hS, rfl⟩, PySem.F.args_list_init_2 _ _, ?_⟩
  have fr : H s.heap.objs.size = none := I.hok.fresh (Nat.le_refl _)
  have hrun := hq _ fr
  have I1 : Inv X pins σ (upd H s.heap.objs.size (.lst [])) { s with heap := s.heap.push { cls := .type "list", data := .seq #[] } } := I.lnew (its := []) (t' := s.toks) .nil (Nat.zero_le _)
  show wpAny _ _ (do let old ← Builtin.List.listItems (.ref s.heap.objs.size); Builtin.List.listUpdate (.ref s.heap.objs.size) (fun _ => #[]); letGo old.toList.reverse; Builtin.List.listExtendWith (.ref s.heap.objs.size) (.ref a) .none) _ _ _
  refine wpAny_bind ?_
  unfold Builtin.List.listItems
  refine wpAny_bind (wpAny_seqItems hS rfl (wpAny_pure ?_))
  show wpAny _ _ (updateSeq s.heap.objs.size (fun _ => #[]) >>= fun _ => letGo (#[] : Array Value).toList.reverse >>= fun _ => Builtin.List.listExtendWith (.ref s.heap.objs.size) (.ref a) .none) _ _ _
  refine wpAny_bind (wpAny_updateSeq hS rfl ?_)
  have I2 := I1.lset (f := fun _ => #[]) (its := []) (its' := []) (ys := []) (t' := s.toks) upd_same hS rfl .nil (Nat.zero_le _)
  rw [upd_upd] at I2
  refine wpAny_bind (wpAny_letGo ?_)
  have ha2 : upd H s.heap.objs.size (.lst []) a = some (.ins C dx fs) := by rw [upd_ne (ne_of_none ha fr)]; exact ha
  have hne : s.heap.objs.size ≠ a := Ne.symm (ne_of_none ha fr)
  generalize s.heap.objs.size = q at *
  obtain ⟨mA, J, _⟩ := ins_get I2.hok ha2
  obtain ⟨od, J, _⟩ := J.look
  obtain ⟨m0, hF⟩ := I2.fr
  unfold Builtin.List.listExtendWith
  refine wpAny_bind (J.type.here ?_)
  have h1 : Builtin.List.listSameRef (.ref q) (.ref a) = false := by simp [Builtin.List.listSameRef, hne]
  have h2 : (Value.ref C == Value.type "list") = false := rfl
  have h3 : (Value.ref C == Value.type "tuple") = false := rfl
  simp only [h1, h2, h3, Bool.or_false, Bool.false_eq_true, if_false]
  refine wpAny_bind (PySem.W.owit_iter hF I2.ok.mod.kin J hc.it hc.itF ?_)
  refine wpAny_mono (own_call (sb.mono (Nat.le_succ _)) FI bI I2 hrun) (fun u s' hu => ?_) fun _ _ z => z
  obtain ⟨v, H1, J1, rv1, l, it, ys, Hb, fs', dx', rfl, rfl, n1, n2, n3, hy, hS1, ha3, hlen⟩ := hu
  cases rv1
  have hz : ys.length ≤ sizeLine := Nat.le_trans hy (by decide)
  have hit := (J1.hok it _ upd_same).1
  have hT : s'.TypeIs (.ref it) "list_iterator" := ⟨_, hit, rfl⟩
  unfold PySem.W.OwitIt
  refine wpAny_specialOf (name := "__next__") hT listiter_next ?_
  refine wpAny_bind (wpAny_holding (own_hintL sb.in1 hc.ln FL bL J1 ha3 hlen fun b s2 hR J2 => ?_))
  have fin : ∀ s3, Inv X pins σ (upd (upd Hb q (.lst [])) it (ItO l it 0)) s3 → codeAny (model X.prog X.w) X.A.in1 (.builtin "list.extend.loop" ⟨[.ref q, .ref it, .none], []⟩) (wants (fun r s₂ => r = .none ∧ EP X pins σ Q (.ref q) s₂) X.xe) s3 := fun s3 J3 =>
    it_loop (A1 := X.A.in1) (H0 := Hb) (ys := ys) hh hS1 n1 n2 n3 hz (fun s4 J4 => ⟨rfl, .ref q, _, J4, rfl, hR⟩) ys.length 0 s3 rfl (Nat.zero_le _) J3
  refine wpAny_ite_split (fun _ => ?_) (fun _ => wpAny_pure ⟨plainId_quiet PySem.F.plain_extend_loop _, fin _ J2⟩)
  have hq0 : (upd (upd Hb q (.lst [])) it (ItO l it 0)) q = some (.lst []) := by rw [upd_ne n3, upd_same]
  obtain ⟨z, its, k, r3, hl3, e3⟩ := J2.lstM hq0
  cases r3
  refine wpAny_bind (wpAny_rule ?_)
  refine wpAny_bind ?_
  show wpAny _ _ (updateSeq q (·.push .none) >>= fun _ => updateSeq q (·.pop)) _ _ _
  refine wpAny_bind (wpAny_updateSeq e3 rfl ?_)
  have I5 := J2.lset (f := (·.push Value.none)) (its' := [Value.none]) (ys := [.non]) (t' := s2.toks) hq0 e3 (by simp) (.cons rfl .nil) (by rw [List.length_singleton, sizeLine_eq]; decide)
  obtain ⟨z4, its4, k4, r4, hl4, e4⟩ := I5.lstM upd_same
  obtain ⟨u4, rfl, ru4⟩ := r4.one
  refine wpAny_updateSeq e4 rfl ?_ (by show 1 ≤ sizeLine; rw [sizeLine_eq]; decide) (by show 0 ≤ sizeLine + 1; exact Nat.zero_le _)
  refine wpAny_pure ⟨plainId_quiet PySem.F.plain_extend_loop _, fin _ ?_⟩
  have I6 := I5.lset (f := (·.pop)) (its := [u4]) (its' := []) (ys := []) (t' := s2.toks) upd_same e4 (by rfl) .nil (Nat.zero_le _)
  rw [upd_upd] at I6
  have hH : upd (upd (upd Hb q (.lst [])) it (ItO l it 0)) q (.lst []) = upd (upd Hb q (.lst [])) it (ItO l it 0) := by
    funext b
    by_cases hb : b = q
    · rw [hb, upd_same, hq0]
    · rw [upd_ne hb]
  rw [hH] at I6
  exact I6
end
end OWN

namespace DT
open PySem PySem.Spec PyProof.Rows L2
/-- what is known of a tuple that was made from a list -/
def Bare (o : Obj) : Prop := o.cls = .type "tuple" ∧ o.dict = none
section
variable {X : Cx}
def rTupZ (K : PySem.W.Frag) : List V → Hp → VK → Prop := fun xs H Q => ∃ (p : Addr) (ys : List V), xs = [.ref p] ∧ SqL K H p ys ∧ ∀ (l : Addr) (o : Obj), H l = none → Bare o → Q (.ref l) (upd H l (.frz o (.tup ys)))
theorem call_tupleZ : CallR X (.type "tuple") (rTupZ X.K) := by
  intro pins s σ H xs us Q I r h
  obtain ⟨p, ys, rfl, hq, q⟩ := h
  obtain ⟨u, rfl, rx⟩ := vals1 r
  cases rx
  obtain ⟨its, r', pl, hz⟩ := I.list hq
  have hlen := r'.length
  refine call_tuple_list pl.isList (fun h' kp => ?_) (by simp only [List.size_toArray] <;> omega)
  have I1 : Inv X pins σ H { s with heap := h' } := I.kept (t' := s.toks) kp
  have I2 : Inv X pins σ (upd H h'.objs.size (.frz { cls := .type "tuple", data := .seq its.toArray } (.tup ys))) { s with heap := h'.push { cls := .type "tuple", data := .seq its.toArray } } :=
    I1.laid (t' := s.toks) (fun b o e => Heap.get?_push_of_some _ e) (Nat.le_refl _) (show ObjOk X.prog X.w _ _ _ (.frz _ (.tup ys)) from ⟨Heap.get?_push_size _ rfl, hz, its, r', IsTup.new _ _⟩)
  exact ⟨.ref h'.objs.size, _, I2, rfl, q _ _ (I1.hok.fresh (Nat.le_refl _)) ⟨rfl, rfl⟩⟩
theorem pairs_of2 {pins : List (Addr × Obj)} {σ : L2.St} {H : Hp} {s : Shared} (I : Inv X pins σ H s) : ∀ {ps : List Addr} {kvs : List (Key × V)}, PySem.Paired (fun p kv => SqT X.K H p [kV kv.1, kv.2]) ps kvs →
    ∃ (prs : List (Key × Value)) (uvs : List (Value × Value)), KV kvs prs ∧ prs.length = ps.length ∧ uvs.length = ps.length ∧ ∀ (j : Nat) (u x : Value), uvs[j]? = some (u, x) → ∃ (b : Addr) (k : Key), ps[j]? = some b ∧ prs[j]? = some (k, x) ∧ IsTup s.heap b #[u, x] ∧ keyIs k u = true
  | _, _, .nil => ⟨[], [], .nil, rfl, rfl, fun j u x e => by simp at e⟩
  | _, _, .cons (a := p) (b := kv) h t => by
    obtain ⟨prs, uvs, r, hl, hl2, hp⟩ := pairs_of2 I t
    obtain ⟨its, rv, ht, _⟩ := I.tuple h
    obtain ⟨u, y, ei, ru, ry⟩ := vals2 rv
    subst ei
    refine ⟨(kv.1, y) :: prs, (u, y) :: uvs, .cons ⟨rfl, ry⟩ r, by rw [List.length_cons, List.length_cons, hl], by rw [List.length_cons, List.length_cons, hl2], fun j u' x e => ?_⟩
    cases j with
    | zero =>
      have e' : (u, y) = (u', x) := Option.some.inj e
      obtain ⟨e1, e2⟩ := Prod.mk.inj e'
      subst e1
      subst e2
      exact ⟨p, kv.1, rfl, rfl, ht, kV_is (P := X.prog) (w := X.w) ru⟩
    | succ j =>
      obtain ⟨b, k, e1, e2, e3⟩ := hp j u' x (by simpa using e)
      exact ⟨b, k, by simpa using e1, by simpa using e2, e3⟩
def rDictT (K : PySem.W.Frag) : List V → Hp → VK → Prop := fun xs H Q => ∃ (a : Addr) (o : Obj) (ps : List Addr) (kvs : List (Key × V)), xs = [.ref a] ∧ H a = some (.frz o (.tup (ps.map V.ref))) ∧ Bare o ∧ PySem.Paired (fun p kv => SqT K H p [kV kv.1, kv.2]) ps kvs ∧
    ∀ p, H p = none → Q (.ref p) (upd H p (.dK (mergeK [] kvs)))
theorem call_dictT (hcalm : X.calm = true) : CallR X (.type "dict") (rDictT X.K) := by
  intro pins s σ H xs us Q I r q
  obtain ⟨a, o, ps, kvs, rfl, ha, ⟨hcls, hdict⟩, hp, q⟩ := q
  obtain ⟨u, rfl, rx⟩ := vals1 r
  cases rx
  obtain ⟨ho, hz, its, rv, o', ho', hc', n, hdat⟩ := (show ObjOk X.prog X.w H s.heap a (.frz o (.tup (ps.map V.ref))) from I.hok a _ ha)
  have eo : o' = o := Option.some.inj (ho'.symm.trans ho)
  subst eo
  have ei := refs_at rv
  subst ei
  rw [List.length_map] at hz
  obtain ⟨prs, uvs, rel, hl, hl2, hpr⟩ := pairs_of2 I hp
  have hP := PairArg.tuple (prog := X.prog) (w := X.w) a (ps.map Value.ref).toArray (fun j => ps.getD j 0) uvs
  refine PySem.call_dict_pairs (knd := mixKind X.prog X.w) (kvs := prs) hP (I.ok.hd hcalm) ⟨⟨o', n, ho, hc', hdict, hdat⟩, ?_, fun j k v e => ?_⟩ ⟨by rw [hl, hl2], fun i key v e => ?_⟩ (by rw [hl2]; exact hz) fun h' tk hd' k => ?_
  · simp [hl2]
  · obtain ⟨b, k', e1, e2, e3, e4⟩ := hpr j k v e
    have hg : ps.getD j 0 = b := by
      rw [List.getD_eq_getElem?_getD, e1]
      rfl
    show (ps.map Value.ref).toArray[j]? = some (.ref (ps.getD j 0)) ∧ PairAt s.heap (ps.getD j 0) k v
    rw [hg]
    exact ⟨by simp [e1], .inl e3⟩
  · obtain ⟨b, k', e1, e2, e3, e4⟩ := hpr i key v e
    exact ⟨k', e2, e4⟩
  · have hm : (s.heap.objs.size == sysModules) = false := beq_eq_false_iff_ne.mpr (Nat.ne_of_gt I.big)
    have hlen : (mergeK [] kvs).length ≤ sizeLine := by
      refine Nat.le_trans (length_mergeK kvs []) ?_
      rw [List.length_nil, Nat.zero_add, rel.length, hl]
      exact hz
    exact ⟨.ref s.heap.objs.size, upd H s.heap.objs.size (.dK (mergeK [] kvs)), I.laid (t' := tk) (fun b o e => k b o (by intro h; cases h) e) (Nat.le_refl _) (show ObjOk X.prog X.w _ _ _ (.dK (mergeK [] kvs)) from ⟨hlen, hm, merged [] prs, KV.merge rel .nil, hd'⟩), rfl, q _ (I.hok.fresh (Nat.le_refl _))⟩
theorem hits_ref {A : Around} {s : Shared} {kvs : List (Key × V)} {vb : List (Key × Value)} (rb : KV kvs vb) {ks : List (Key × V)} {va : List (Key × Value)} (ra : KV ks va) :
    (∀ p ∈ ks, valV kvs p.1 = some p.2 ∧ ∃ t, p.2 = V.ref t) → PySem.W.KeqHits A s vb va true := by
  unfold KV at ra
  induction ra with
  | nil => intro _; exact .nil
  | @cons p q ps qs h t ih =>
    intro hp
    obtain ⟨h1, h2⟩ := h
    obtain ⟨e, t', f⟩ := hp p List.mem_cons_self
    have rr : RelO (some p.2) (valueAt vb p.1) := by rw [← e]; exact rb.val p.1
    obtain ⟨y, hy, ry⟩ := rr.some_of
    obtain ⟨k, v⟩ := q
    have h1' : p.1 = k := h1
    rw [h1'] at hy
    rw [f] at ry h2
    have e1 : y = Value.ref t' := ry
    have e2 : v = Value.ref t' := h2
    subst e1
    subst e2
    show PySem.W.KeqHits A s vb ((k, Value.ref t') :: qs) (true && true)
    exact .hit hy (SeqAt.EqAt.same _) (ih fun p' hm => hp p' (List.mem_cons_of_mem _ hm))
def rEqDR : R2 := fun x y H Q => ∃ (a b : Addr) (kvs : List (Key × V)), x = .ref a ∧ y = .ref b ∧ H a = some (.dK kvs) ∧ H b = some (.dK kvs) ∧ (kvs.map (·.1)).Nodup ∧ (∀ p ∈ kvs, ∃ t, p.2 = V.ref t) ∧ Q (.bl true) H
theorem op_eq_dictR (hu : X.A.units < cLine) : OpR X (compareOp .Eq) rEqDR := by
  intro pins s σ H x y v u Q I rx ry h
  obtain ⟨a, b, kvs, rfl, rfl, ea, eb, nd, fl, q⟩ := h
  obtain rfl : v = Value.ref a := rx
  obtain rfl : u = Value.ref b := ry
  obtain ⟨_, ya, va, ra, da⟩ := (show ObjOk X.prog X.w H s.heap a (.dK kvs) from I.hok a _ ea)
  obtain ⟨_, yb, vb, rb, db⟩ := (show ObjOk X.prog X.w H s.heap b (.dK kvs) from I.hok b _ eb)
  have hl : va.length = vb.length := by rw [← ra.length, ← rb.length]
  exact PySem.W.keq_eq (knd := mixKind X.prog X.w) (r := true) ya yb da db hu (fun _ => hits_ref rb ra fun p hp => ⟨val_nodup nd p hp, fl p hp⟩) (fin_bl I q (by simp [hl]))
end
end DT
namespace DT
open PySem PySem.Spec PyProof.Rows L2
section
variable {X : Cx}
/-- d.update(e) of two dicts -/
def rUpdate : V → List V → Hp → VK → Prop := fun x xs H Q => ∃ (d o : Addr) (kvs more : List (Key × V)), x = .ref d ∧ xs = [.ref o] ∧ d ≠ o ∧ H d = some (.dK kvs) ∧ H o = some (.dK more) ∧ kvs.length + more.length ≤ sizeLine ∧ Q .non (upd H d (.dK (mergeK kvs more)))
theorem mt_update : MtR X "dict.update" rUpdate := by
  intro pins s σ H x xs v us Q I rx rv h
  obtain ⟨d, o, kvs, more, rfl, rfl, hne, hd, ho, hz, q⟩ := h
  cases rx
  obtain ⟨u, rfl, ru⟩ := rv.one
  cases ru
  obtain ⟨_, y1, va, ra, da⟩ := dk_of I.hok hd
  obtain ⟨_, y2, vb, rb, db⟩ := dk_of I.hok ho
  have hz2 : va.length + vb.length ≤ sizeLine := by rw [← ra.length, ← rb.length]; exact hz
  refine call_meetsIn PySem.F.slot_dict_update da.typeIs PySem.F.entry_dict_update (PySem.F.args_dict_update_2 _ _) (meets_dict_update (mixKind X.prog X.w) d o hne y2) ⟨va, vb, da, db, hz2, fun h' hd' ho' hs => ?_⟩
  have hlen : (mergeK kvs more).length ≤ sizeLine := Nat.le_trans (length_mergeK more kvs) (by omega)
  have he : ∃ q, h'.get? d = some q := by
    obtain ⟨ob, _, _, hob, _⟩ := hd'
    exact ⟨ob, hob⟩
  exact ⟨V.non, _, d_write (t' := s.toks) I (by rw [hd]; exact trivial) hs he (dk_new hlen y1 (rb.merge ra) hd'), rfl, q⟩
end
end DT

namespace QC
open PySem PySem.Spec PyProof.Rows L2
def rLenQ (K : PySem.W.Frag) : List V → Hp → VK → Prop := fun xs H Q => ∃ p ys, xs = [.ref p] ∧ (SqL K H p ys ∨ SqT K H p ys) ∧ Q (.int ys.length) H
theorem call_lenQ {X : Cx} : CallR X (.builtin "len") (rLenQ X.K) := call_len_seq
end QC

namespace ND
open PySem PySem.Spec PyProof.Rows L2
mutual
/-- what v tells is the key k -/
def nk (H : Hp) : NestedKey → V → Prop
  | .none, v => v = .non
  | .num i, v => v = .int i
  | .text x, v => v = .str x
  | .tup ks, v => ∃ b xs, v = .ref b ∧ H b = some (.tup xs) ∧ nks H ks xs
def nks (H : Hp) : List NestedKey → List V → Prop
  | [], xs => xs = []
  | k :: ks, xs => ∃ v vs, xs = v :: vs ∧ nk H k v ∧ nks H ks vs
end
section
variable {P : Program} {w : World} {H H' : Hp} {h : Heap}
mutual
theorem nk_keep (ht : ∀ b ys, H b = some (.tup ys) → H' b = some (.tup ys)) : ∀ (k : NestedKey) (v : V), nk H k v → nk H' k v
  | .none, v, q => by unfold nk at q ⊢; exact q
  | .num i, v, q => by unfold nk at q ⊢; exact q
  | .text x, v, q => by unfold nk at q ⊢; exact q
  | .tup ks, v, q => by
    unfold nk at q ⊢
    obtain ⟨b, xs, e1, e2, q⟩ := q
    exact ⟨b, xs, e1, ht _ _ e2, nks_keep ht ks xs q⟩
theorem nks_keep (ht : ∀ b ys, H b = some (.tup ys) → H' b = some (.tup ys)) : ∀ (ks : List NestedKey) (xs : List V), nks H ks xs → nks H' ks xs
  | [], xs, q => by unfold nks at q ⊢; exact q
  | k :: ks, xs, q => by
    unfold nks at q ⊢
    obtain ⟨v, vs, e, q1, q2⟩ := q
    exact ⟨v, vs, e, nk_keep ht k v q1, nks_keep ht ks vs q2⟩
end
mutual
theorem nk_is (ok : HOk P w H h) : ∀ (k : NestedKey) (v : V) (u : Value), nk H k v → RelV v u → NestedIs h k u
  | .none, v, u, q, r => by
    unfold nk at q
    subst q
    obtain rfl : u = Value.none := r
    exact .none
  | .num i, v, u, q, r => by
    unfold nk at q
    subst q
    obtain ⟨t, rfl⟩ : ∃ t, u = Value.int i t := r
    exact .int i t
  | .text x, v, u, q, r => by
    unfold nk at q
    subst q
    obtain ⟨t, rfl⟩ : ∃ t, u = Value.str x t := r
    exact .text x t
  | .tup ks, v, u, q, r => by
    unfold nk at q
    obtain ⟨b, xs, rfl, e, q⟩ := q
    obtain rfl : u = Value.ref b := r
    obtain ⟨_, its, r, o, h1, h2, n, h3⟩ := (show ObjOk P w H h b (.tup xs) from ok b _ e)
    exact .tup h1 h2 h3 (by simpa using nks_is ok ks xs its q r)
theorem nks_is (ok : HOk P w H h) : ∀ (ks : List NestedKey) (xs : List V) (us : List Value), nks H ks xs → Vals xs us → NestedAll h ks us
  | [], xs, us, q, r => by
    unfold nks at q
    subst q
    cases r
    exact .nil
  | k :: ks, xs, us, q, r => by
    unfold nks at q
    obtain ⟨v, vs, rfl, q1, q2⟩ := q
    cases r with
    | cons r1 r2 => exact .cons (nk_is ok k v _ q1 r1) (nks_is ok ks vs _ q2 r2)
end

/-- keys, the places of their tuples, values -/
abbrev TK := NestedKey × Addr × V
def kv (ts : List TK) : List (NestedKey × V) := ts.map fun t => (t.1, t.2.2)
def R3 (p : TK) (q : NestedKey × Addr × Value) : Prop := p.1 = q.1 ∧ p.2.1 = q.2.1 ∧ RelV p.2.2 q.2.2
def putT (ts : List TK) (k : NestedKey) (b : Addr) (v : V) : List TK := if (valV (kv ts) k).isSome = true then ts.map (fun t => if t.1 = k then (t.1, t.2.1, v) else t) else ts ++ [(k, b, v)]
theorem kv_len (ts : List TK) : (kv ts).length = ts.length := List.length_map _
theorem kv_put (ts : List TK) (k : NestedKey) (b : Addr) (v : V) : kv (putT ts k b v) = putK (kv ts) k v := by
  unfold putT putK
  rw [valV_any]
  by_cases e : (valV (kv ts) k).isSome = true
  · rw [if_pos e, if_pos e]
    unfold kv
    rw [List.map_map, List.map_map]
    refine List.map_congr_left fun t _ => ?_
    show ((if t.1 = k then (t.1, t.2.1, v) else t : TK).1, (if t.1 = k then (t.1, t.2.1, v) else t : TK).2.2) = if t.1 = k then (t.1, v) else (t.1, t.2.2)
    by_cases q : t.1 = k
    · rw [if_pos q, if_pos q]
    · rw [if_neg q, if_neg q]
  · rw [if_neg e, if_neg e]
    unfold kv
    rw [List.map_append]
    rfl
theorem tv {ts : List TK} {xs : List (NestedKey × Addr × Value)} (r : Paired R3 ts xs) (k : NestedKey) : RelO (valV (kv ts) k) ((atKey xs k).map (·.2)) := by
  induction r with
  | nil => exact True.intro
  | @cons p q ps qs h t ih =>
    obtain ⟨h1, _, h2⟩ := h
    by_cases e : p.1 = k
    · have a1 : atKey (q :: qs) k = some q.2 := by simp [atKey, List.find?_cons, h1.symm.trans e]
      rw [show kv (p :: ps) = (p.1, p.2.2) :: kv ps from rfl, valV_pos e, a1]
      exact h2
    · have a1 : atKey (q :: qs) k = atKey qs k := by
        have n : ¬ q.1 = k := fun z => e (h1.trans z)
        simp [atKey, List.find?_cons, n]
      rw [show kv (p :: ps) = (p.1, p.2.2) :: kv ps from rfl, valV_neg e, a1]
      exact ih
theorem tput {ts : List TK} {xs : List (NestedKey × Addr × Value)} (r : Paired R3 ts xs) (k : NestedKey) (b : Addr) {v : V} {u : Value} (rv : RelV v u) : Paired R3 (putT ts k b v) (storedH xs k b u) := by
  have e : (valV (kv ts) k).isSome = (atKey xs k).isSome := by rw [(tv r k).isSome_eq, Option.isSome_map]
  unfold putT storedH
  rw [e]
  by_cases q : (atKey xs k).isSome = true
  · rw [if_pos q, if_pos q]
    clear e q
    induction r with
    | nil => exact .nil
    | @cons p q ps qs h t ih =>
      rw [List.map_cons, List.map_cons]
      refine .cons ?_ ih
      obtain ⟨h1, h2, h3⟩ := h
      unfold putAt
      by_cases e : p.1 = k
      · rw [if_pos e, if_pos (h1.symm.trans e)]
        exact ⟨h1, h2, rv⟩
      · rw [if_neg e, if_neg (fun z => e (h1.trans z))]
        exact ⟨h1, h2, h3⟩
  · rw [if_neg q, if_neg q]
    exact Paired.snoc r ⟨rfl, rfl, rv⟩
/-- the dict at a, as an object of its own -/
def NDo (P : Program) (w : World) (a : Addr) (ts : List TK) : HO := .ext fun h => ts.length ≤ sizeLine ∧ (a == sysModules) = false ∧ ∃ xs, Paired R3 ts xs ∧ ∃ o es ep, h.get? a = some o ∧ o.ExactDict ∧ o.data = .dict es ep ∧ es.toList = xs.map (entryOfKey (nestedKind P w)) ∧ (xs.map (·.1)).Nodup
/-- a dict with nested keys (the empty one is any dict) -/
def ND (P : Program) (w : World) (H : Hp) (a : Addr) (kvs : List (NestedKey × V)) : Prop :=
  (∃ ts, kv ts = kvs ∧ H a = some (NDo P w a ts) ∧ ∀ t ∈ ts, nk H t.1 (.ref t.2.1) ∧ t.1.depth ≤ 8) ∨ (kvs = [] ∧ H a = some (.dK []))
theorem ND.keep {a : Addr} {kvs : List (NestedKey × V)} (n : ND P w H a kvs) (ea : ∀ o, H a = some o → H' a = some o) (ht : ∀ b ys, H b = some (.tup ys) → H' b = some (.tup ys)) : ND P w H' a kvs := by
  rcases n with ⟨ts, e1, e2, e3⟩ | ⟨e1, e2⟩
  · exact .inl ⟨ts, e1, ea _ e2, fun t m => ⟨nk_keep ht _ _ (e3 t m).1, (e3 t m).2⟩⟩
  · exact .inr ⟨e1, ea _ e2⟩
theorem ND.mut {a : Addr} {kvs : List (NestedKey × V)} (n : ND P w H a kvs) : Mut (H a) := by
  rcases n with ⟨ts, _, e, _⟩ | ⟨_, e⟩
  · rw [e]; exact True.intro
  · rw [e]; exact True.intro
theorem ND.not_tup {a b : Addr} {kvs : List (NestedKey × V)} {ys : List V} (n : ND P w H a kvs) (e : H b = some (.tup ys)) : b ≠ a := fun z => by
  subst z
  rcases n with ⟨ts, _, e2, _⟩ | ⟨_, e2⟩
  · rw [e] at e2
    have z' : HO.tup ys = HO.ext _ := Option.some.inj e2
    exact nomatch z'
  · rw [e] at e2
    exact nomatch e2
theorem nd_of {a : Addr} {kvs : List (NestedKey × V)} (ok : HOk P w H h) (n : ND P w H a kvs) : kvs.length ≤ sizeLine ∧ (a == sysModules) = false ∧
    ∃ ts xs, kv ts = kvs ∧ Paired R3 ts xs ∧ (∀ t ∈ ts, nk H t.1 (.ref t.2.1) ∧ t.1.depth ≤ 8) ∧ h.DictOfH (nestedKind P w) a xs := by
  rcases n with ⟨ts, e1, e2, e3⟩ | ⟨rfl, e2⟩
  · obtain ⟨⟨z, y, xs, r, o, es, ep, h1, h2, h3, h4, h5⟩, _⟩ := (show ObjOk P w H h a (NDo P w a ts) from ok a _ e2)
    refine ⟨by rw [← e1, kv_len]; exact z, y, ts, xs, e1, r, e3, o, es, ep, h1, h2, h3, h4, fun x hx => ?_, h5⟩
    have all : ∀ {l : List TK} {m : List (NestedKey × Addr × Value)}, Paired R3 l m → (∀ t ∈ l, nk H t.1 (.ref t.2.1) ∧ t.1.depth ≤ 8) → ∀ x ∈ m, (nestedKind P w).is h x.1 x.2.1 := by
      intro l m q
      induction q with
      | nil => intro _ x hx; exact nomatch hx
      | @cons p q ps qs hq t ih =>
        intro hl x hx
        rcases List.mem_cons.mp hx with e | hx
        · subst e
          obtain ⟨k1, k2⟩ := hl p List.mem_cons_self
          rw [hq.1, hq.2.1] at k1
          rw [hq.1] at k2
          exact ⟨nk_is ok _ _ _ k1 rfl, k2⟩
        · exact ih (fun t ht => hl t (List.mem_cons_of_mem _ ht)) x hx
    exact all r e3 x hx
  · obtain ⟨z, y, vs, rel, o, es, ep, h1, h2, h3, h4, h5, h6⟩ := dk_of ok e2
    cases rel
    refine ⟨Nat.zero_le _, y, [], [], rfl, .nil, (fun t ht => nomatch ht), o, es, ep, h1, h2, h3, ?_, (fun x hx => nomatch hx), .nil⟩
    cases e : es.toList with
    | nil => rfl
    | cons x r =>
      rw [e] at h5
      cases h5
end
section
variable {X : Cx} {pins : List (Addr × Obj)} {σ : L2.St} {H : Hp} {s : Shared} {a b : Addr} {kvs : List (NestedKey × V)} {k : NestedKey} {v : V} {r : Value} {A : Around} {E : Value → Shared → Prop}
theorem key_is {P : Program} {w : World} {h : Heap} (ok : HOk P w H h) (hk : nk H k (.ref b)) (hd : k.depth ≤ 8) : (nestedKind P w).is h k b := ⟨nk_is ok _ _ _ hk rfl, hd⟩
theorem n_getItem {Q : Value → Shared → Prop} (hu : (nestedKind X.prog X.w).room A.in1) (I : Inv X pins σ H s) (n : ND X.prog X.w H a kvs) (hk : nk H k (.ref b)) (hd : k.depth ≤ 8) (hv : valV kvs k = some v) (h : ∀ w' s', Inv X pins σ H s' → RelV v w' → Q w' s') :
    wpAny (model X.prog X.w) A (getItem (.ref a) (.ref b)) Q E s := by
  obtain ⟨z, hm, ts, xs, e, rel, _, dd⟩ := nd_of I.hok n
  obtain ⟨w', hw, rw'⟩ := RelO.some_of (v := v) (o := (atKey xs k).map (·.2)) (by rw [← hv, ← e]; exact tv rel k)
  obtain ⟨p, hp, hp2⟩ := Option.map_eq_some_iff.mp hw
  refine wpAny_getItem_heap hu (key_is I.hok hk hd) dd hp ?_
  rw [hp2]
  exact h w' _ (I.tok _) rw'
theorem n_in {Q : Value → Shared → Prop} (hu : (nestedKind X.prog X.w).room A.in1) (I : Inv X pins σ H s) (n : ND X.prog X.w H a kvs) (hk : nk H k (.ref b)) (hd : k.depth ≤ 8) (h : ∀ s', Inv X pins σ H s' → Q (.bool (valV kvs k).isSome) s') :
    wpAny (model X.prog X.w) A (compareOp .In (.ref b) (.ref a)) Q E s := by
  obtain ⟨z, hm, ts, xs, e, rel, _, dd⟩ := nd_of I.hok n
  refine wpAny_in_heap hu (key_is I.hok hk hd) hm dd ?_
  have q := (tv rel k).isSome_eq
  rw [Option.isSome_map, e] at q
  rw [← q]
  exact h _ (I.tok _)
theorem n_notIn {Q : Value → Shared → Prop} (hu : (nestedKind X.prog X.w).room A.in1) (I : Inv X pins σ H s) (n : ND X.prog X.w H a kvs) (hk : nk H k (.ref b)) (hd : k.depth ≤ 8) (h : ∀ s', Inv X pins σ H s' → Q (.bool (!(valV kvs k).isSome)) s') :
    wpAny (model X.prog X.w) A (compareOp .NotIn (.ref b) (.ref a)) Q E s := by
  obtain ⟨z, hm, ts, xs, e, rel, _, dd⟩ := nd_of I.hok n
  refine wpAny_notIn_heap hu (key_is I.hok hk hd) hm dd ?_
  have q := (tv rel k).isSome_eq
  rw [Option.isSome_map, e] at q
  rw [← q]
  exact h _ (I.tok _)
/-- the heap behind a[k] = v -/
theorem n_setItem {Q : Unit → Shared → Prop} (hu : (nestedKind X.prog X.w).room A.in1) (I : Inv X pins σ H s) (n : ND X.prog X.w H a kvs) (hk : nk H k (.ref b)) (hd : k.depth ≤ 8) (hz : kvs.length < sizeLine) (rv : RelV v r)
    (h : ∀ o s', ND X.prog X.w (upd H a o) a (putK kvs k v) → Inv X pins σ (upd H a o) s' → Q () s') :
    wpAny (model X.prog X.w) A (setItem (.ref a) (.ref b) r) Q E s := by
  obtain ⟨z, hm, ts, xs, e, rel, al, dd⟩ := nd_of I.hok n
  have hl : xs.length ≤ sizeLine := by rw [← Paired.length rel, ← kv_len, e]; exact z
  refine wpAny_setItem_heap (hsz := hl) hu (key_is I.hok hk hd) dd fun h' dd' hs => h (NDo X.prog X.w a (putT ts k b v)) _ ?_ ?_
  · have ht : ∀ c ys, H c = some (.tup ys) → upd H a (NDo X.prog X.w a (putT ts k b v)) c = some (.tup ys) := fun c ys ec => by
      rw [upd_ne (n.not_tup ec)]
      exact ec
    refine .inl ⟨putT ts k b v, by rw [kv_put, e], upd_same, fun t m => ?_⟩
    unfold putT at m
    by_cases q : (valV (kv ts) k).isSome = true
    · rw [if_pos q] at m
      obtain ⟨t0, m0, rfl⟩ := List.mem_map.mp m
      obtain ⟨g1, g2⟩ := al t0 m0
      by_cases q2 : t0.1 = k
      · rw [if_pos q2]
        exact ⟨nk_keep ht _ _ g1, g2⟩
      · rw [if_neg q2]
        exact ⟨nk_keep ht _ _ g1, g2⟩
    · rw [if_neg q] at m
      rcases List.mem_append.mp m with m | m
      · obtain ⟨g1, g2⟩ := al t m
        exact ⟨nk_keep ht _ _ g1, g2⟩
      · rw [List.mem_singleton.mp m]
        exact ⟨nk_keep ht _ _ hk, hd⟩
  · obtain ⟨q, es, ep, hq, h2, h3, h4, _, h5⟩ := dd'
    refine d_write I n.mut hs ⟨q, hq⟩ ⟨⟨?_, hm, _, tput rel k b rv, q, es, ep, hq, h2, h3, h4, h5⟩, ⟨q, hq⟩, fun h1 h2 x st => ?_⟩
    · have := length_putK (kv ts) k v
      rw [← kv_put ts k b v, kv_len, e] at this
      omega
    · obtain ⟨z1, z2, xs2, r2, o, es2, ep2, g1, g2⟩ := x
      exact ⟨z1, z2, xs2, r2, o, es2, ep2, st _ g1, g2⟩
end

/-! the readings -/
def tNGet (P : Program) (w : World) (td ty : TE) : TE := fun σ H Q => td σ H fun x H1 => ty σ H1 fun y H2 => ∃ a b kvs k v, x = .ref a ∧ y = .ref b ∧ ND P w H2 a kvs ∧ nk H2 k (.ref b) ∧ k.depth ≤ 8 ∧ valV kvs k = some v ∧ Q v H2
def tNIn (P : Program) (w : World) (neg : Bool) (ty td : TE) : TE := fun σ H Q => ty σ H fun y H1 => td σ H1 fun x H2 => ∃ a b kvs k, x = .ref a ∧ y = .ref b ∧ ND P w H2 a kvs ∧ nk H2 k (.ref b) ∧ k.depth ≤ 8 ∧ Q (.bl (if neg then !(valV kvs k).isSome else (valV kvs k).isSome)) H2
def sNPut (P : Program) (w : World) (td ty tv : TE) : TS := fun D σ H => tv σ H fun v H1 => td σ H1 fun x H2 => ty σ H2 fun y H3 => ∃ a b kvs k, x = .ref a ∧ y = .ref b ∧ ND P w H3 a kvs ∧ nk H3 k (.ref b) ∧ k.depth ≤ 8 ∧ kvs.length < sizeLine ∧ ∀ o, ND P w (upd H3 a o) a (putK kvs k v) → D.nx σ (upd H3 a o)
def tNGet2 (P : Program) (w : World) (td ty tx : TE) : TE := fun σ H Q => td σ H fun x H1 => ∃ a kvs, x = .ref a ∧ ND P w H1 a kvs ∧ ty σ H1 fun y H2 => tx σ H2 fun z H3 => ∃ b kvs k, y = .ref b ∧ ND P w H3 a kvs ∧ nk H3 k (.ref b) ∧ k.depth ≤ 8 ∧ Q ((valV kvs k).getD z) H3
theorem hu9_of {A : Around} {k : Nat} (hr : Room k A) : A.units + 9 < cLine := Nat.lt_of_le_of_lt (Nat.add_le_add_left (by decide : 9 ≤ 64) _) hr.units
theorem room9 {P : Program} {w : World} {A : Around} (hu : A.units + 9 < cLine) : (nestedKind P w).room A.in1 := by
  show A.units + 1 + 8 < cLine
  omega
theorem nd_type {X : Cx} {pins : List (Addr × Obj)} {σ : L2.St} {H : Hp} {s : Shared} {a : Addr} {kvs : List (NestedKey × V)} (I : Inv X pins σ H s) (n : ND X.prog X.w H a kvs) : s.TypeIs (.ref a) "dict" ∧ (∀ b, Value.ref a = .ref b → ∃ ob, s.heap.get? b = some ob ∧ ob.dict = none) := by
  obtain ⟨_, hd, ts, xs, _, _, _, dd⟩ := nd_of I.hok n
  refine ⟨dd.typeIs, fun b q => ?_⟩
  cases q
  obtain ⟨ob, _, _, h1, h2, _⟩ := dd
  exact ⟨ob, h1, h2.2.1⟩
section
variable {X : Cx} {o i e f value : Expr} {pos pos' apos cpos : Pos} {td ty tv tx : TE}
theorem pe_ndget (hu : X.A.units + 9 < cLine) (ho : PE X o td) (hi : PE X i ty) (hs : NoSl i) : PE X (.Subscript o i pos) (tNGet X.prog X.w td ty) := by
  constructor
  intro pins s σ H Q I h
  refine subD_of PySem.F.slot_dict_getitem.lookup hs (thn (ho.run pins s σ H _ I h) fun u s1 ⟨x, H1, I1, rx, q1⟩ => thn (hi.run pins s1 σ H1 _ I1 q1) fun iv s2 ⟨y, H2, I2, ry, a, b, kvs, k, v, ex, ey, n, hk, hd, hv, q2⟩ => ?_)
  subst ex ey
  obtain rfl : u = Value.ref a := rx
  obtain rfl : iv = Value.ref b := ry
  exact ⟨(nd_type I2 n).1, n_getItem (room9 hu) I2 n hk hd hv fun w' s3 I3 rw' => ⟨v, H2, I3, rw', q2⟩⟩
theorem pc_ndin (hu : X.A.units + 9 < cLine) (hi : PE X i ty) (ho : PE X o td) : PC X .In i o (tNIn X.prog X.w false ty td) := by
  constructor
  intro pins s σ H Q I h
  refine thn (hi.run pins s σ H _ I h) fun iv s1 ⟨y, H1, I1, ry, q1⟩ => thn (ho.run pins s1 σ H1 _ I1 q1) fun u s2 ⟨x, H2, I2, rx, a, b, kvs, k, ex, ey, n, hk, hd, q2⟩ => ?_
  subst ex ey
  obtain rfl : u = Value.ref a := rx
  obtain rfl : iv = Value.ref b := ry
  exact n_in (room9 hu) I2 n hk hd fun s3 I3 => ⟨.bl (valV kvs k).isSome, H2, I3, rfl, q2⟩
theorem pc_ndnotin (hu : X.A.units + 9 < cLine) (hi : PE X i ty) (ho : PE X o td) : PC X .NotIn i o (tNIn X.prog X.w true ty td) := by
  constructor
  intro pins s σ H Q I h
  refine thn (hi.run pins s σ H _ I h) fun iv s1 ⟨y, H1, I1, ry, q1⟩ => thn (ho.run pins s1 σ H1 _ I1 q1) fun u s2 ⟨x, H2, I2, rx, a, b, kvs, k, ex, ey, n, hk, hd, q2⟩ => ?_
  subst ex ey
  obtain rfl : u = Value.ref a := rx
  obtain rfl : iv = Value.ref b := ry
  exact n_notIn (room9 hu) I2 n hk hd fun s3 I3 => ⟨.bl (!(valV kvs k).isSome), H2, I3, rfl, q2⟩
theorem ps_ndput (hu : X.A.units + 9 < cLine) (ho : PE X o td) (hi : PE X i ty) (hv : PE X value tv) (hs : swapsWith value (some (.Subscript o i pos')) pos.line X.env = pure false) : PS X (.Assign [.Subscript o i pos'] value pos) (sNPut X.prog X.w td ty tv) := by
  constructor
  intro pins s σ H D I h
  refine wpAny_Assign_Subscript (thn (hv.run pins s σ H _ I h) fun r s1 ⟨v, H1, I1, rv, q1⟩ => thn (ho.run pins s1 σ H1 _ I1 q1) fun u s2 ⟨x, H2, I2, rx, q2⟩ => thn (hi.run pins s2 σ H2 _ I2 q2) fun iv s3 ⟨y, H3, I3, ry, a, b, kvs, k, ex, ey, n, hk, hd, hz, q3⟩ => ?_) hs
  subst ex ey
  obtain rfl : u = Value.ref a := rx
  obtain rfl : iv = Value.ref b := ry
  exact n_setItem (room9 hu) I3 n hk hd hz rv fun ob s4 n4 I4 => ⟨σ, _, I4, q3 ob n4⟩
theorem pe_ndget2 (hu : X.A.units + 9 < cLine) (ho : PE X o td) (he : PE X e ty) (hf : PE X f tx) (m : M2 X o "get" apos e f cpos) : PE X (.Call (.Attribute o "get" apos) [e, f] [] cpos) (tNGet2 X.prog X.w td ty tx) := by
  constructor
  intro pins s σ H Q I h
  refine wpAny_Call_method m.base m.few m.line PySem.F.plainAttrs_dict PySem.F.slot_dict_get PySem.F.type_dict_get (thn (ho.run pins s σ H _ I h) fun u s1 ⟨x, H1, I1, rx, a, kvs1, ex, n1, q1⟩ => ?_)
  subst ex
  obtain rfl : u = Value.ref a := rx
  obtain ⟨t1, t2⟩ := nd_type I1 n1
  refine ⟨t1, t2, ?_⟩
  rw [m.trees]
  refine Calls.callWith_builtin rfl (Calls.evalArgs_plain (Calls.spliced_cons (thn (he.run pins s1 σ H1 _ I1 q1) fun iv s2 ⟨y, H2, I2, ry, q2⟩ =>
    Calls.spliced_cons (thn (hf.run pins s2 σ H2 _ I2 q2) fun fv s3 ⟨z, H3, I3, rz, b, kvs, k, ey, n, hk, hd, q3⟩ => Calls.spliced_nil ?_))))
  subst ey
  obtain rfl : iv = Value.ref b := ry
  obtain ⟨zz, hm, ts, xs, e, rel, _, dd⟩ := nd_of I3.hok n
  refine call_meetsIn PySem.F.slot_dict_get dd.typeIs PySem.F.entry_dict_get (PySem.F.args_dict_get_3 _ _ _) (meetsH_dict_get_default (nestedKind X.prog X.w) a b hm fv) ⟨room9 hu, k, xs, key_is I3.hok hk hd, dd, ?_⟩
  refine ⟨_, H3, I3.tok _, ?_, q3⟩
  rw [← e]
  exact (tv rel k).getD rz
end
end ND

namespace SLT
open PySem PySem.Spec PyProof.Rows L2
/-! set(xs) of a list or a tuple of ints, as a set whose order may be asked for -/
section
variable {P : Program} {w : World} {A : Around} {E : Value → Shared → Prop} {s : Shared}
/-- the new set -/
abbrev so (w : World) : Obj := { cls := .type "set", dict := none, data := .set #[] 0 (.fresh 0 0 (!w.params.followText "set-order")) }
abbrev s1 (w : World) (s : Shared) : Shared := { s with heap := s.heap.push (so w) }
/-- what is known behind the set's own making -/
def Filled (w : World) (s : Shared) (ns : List Int) (t : Shared) : Prop := ∃ h tk n, t = { s with heap := h, toks := tk } ∧ SetR w h s.heap.objs.size (fun j => decide (j ∈ ns)) n ∧ n ≤ ns.length ∧ ∀ b o, s.heap.get? b = some o → h.get? b = some o
theorem init_l {l : Addr} {its : Array Value} {ns : List Int} (hh : A.handled = none) (hl : s.heap.IsList l its) (hi : IntsAre its.toList ns) (hb : ns.length + 1 < scanBound) :
    wpAny (model P w) A.in1.in1 (Builtin.«set.__init__» ⟨[.ref s.heap.objs.size, .ref l], []⟩)
      (fun fin t => match fin with
        | .done f => wants (fun r t => r = .none ∧ Filled w s ns t) E (.ok f) t
        | .again c => c.quiet = true ∧ codeAny (model P w) A.in1 c (wants (fun r t => r = .none ∧ Filled w s ns t) E) t) (fun e t => wants (fun r t => r = .none ∧ Filled w s ns t) E (.error e) t) (s1 w s) := by
  have esz : its.size = ns.length := (Array.length_toList (xs := its)).symm.trans (IntsAre.length hi)
  obtain ⟨ol, e0, e1, nl, e2⟩ := id hl
  have ll : l < s.heap.objs.size := Heap.lt_size e0
  have L1 : (s1 w s).heap.IsList l its := ⟨ol, Heap.get?_push_of_some _ e0, e1, nl, e2⟩
  obtain ⟨oc, od, oa, os⟩ := ol
  simp only at e1 e2
  subst e1 e2
  have e3 : (s1 w s).heap.get? l = some { cls := .type "list", dict := od, data := .seq its nl, slots := os } := Heap.get?_push_of_some _ e0
  have n1 := F.sub_list_set
  have n2 := F.sub_list_frozenset
  have n3 : (Value.type "list" == Value.type "dict") = false := by decide
  unfold Builtin.«set.__init__» noKeywords
  unfold Builtin.Frozenset.updateFrom
  generalize ePI : pyIter = PI
  wp_walk
  subst ePI
  apply wpAny_pyIter_list L1
  apply wpAny_bind
  apply wpAny_runValue
  have sz1 : (s1 w s).heap.objs.size = s.heap.objs.size + 1 := Heap.size_push ..
  have eS : ((s1 w s).heap.push { cls := .type "list_iterator", data := .fields #[.ref l, .int 0 0] }).get? s.heap.objs.size = some (so w) := Heap.get?_push_of_some _ (Heap.get?_push_size _ rfl)
  have nl1 : l ≠ (s1 w s).heap.objs.size := Nat.ne_of_lt (Nat.lt_of_lt_of_eq (Nat.lt_succ_of_lt ll) sz1.symm)
  have nS : s.heap.objs.size ∉ [(s1 w s).heap.objs.size, l] := fun z => by
    rcases List.mem_cons.mp z with z | z
    · exact absurd z (Nat.ne_of_lt (Nat.lt_of_lt_of_eq (Nat.lt_succ_self _) sz1.symm))
    · exact absurd (List.mem_singleton.mp z) (Nat.ne_of_gt ll)
  have at_ : ∀ (i : Nat) (v : Value), its[i]? = some v → ∃ k t, ns[i]? = some k ∧ v = .int k t := fun i v hv => by
    have il : i < ns.length := esz ▸ (Array.getElem?_eq_some_iff.mp hv).1
    obtain ⟨t, et⟩ := IntsAre.int_at hi i v (by rw [Array.getElem?_toList]; exact hv)
    rw [List.getD_eq_getElem?_getD, List.getElem?_eq_getElem il] at et
    exact ⟨ns[i], t, List.getElem?_eq_getElem il, et⟩
  apply set_update_ints (Walks.list (show A.in1.in1.in1.handled = none from hh) _ l nl1 its).toS s.heap.objs.size nS ns esz hb at_ its.size 0 _ rfl (Nat.zero_le _)
  · exact ⟨⟨_, Heap.get?_push_size _ rfl, rfl, rfl⟩, L1.push _⟩
  · exact ⟨0, Nat.le_refl _, setR_new_at eS⟩
  · intro t c mv hc R
    rw [Moved.eq_with mv]
    apply wpAny_pure
    show wpAny _ _ (ret Value.none) _ _ _
    exact wpAny_pure ⟨rfl, t.heap, t.toks, c, rfl, R, esz ▸ hc, fun b o e => mv.heap b o (fun z => by
      have y := Heap.lt_size e
      rcases List.mem_cons.mp z with z | z
      · exact absurd z (Nat.ne_of_lt y)
      · exact absurd (List.mem_singleton.mp z) (Nat.ne_of_lt (Nat.lt_of_lt_of_eq (Nat.lt_succ_of_lt y) sz1.symm))) (Heap.get?_push_of_some _ (Heap.get?_push_of_some _ e))⟩
theorem call_l {l : Addr} {its : Array Value} {ns : List Int} {Q : Value → Shared → Prop} (hh : A.handled = none) (hl : s.heap.IsList l its) (hi : IntsAre its.toList ns) (hb : ns.length + 1 < scanBound)
    (h : ∀ t, Filled w s ns t → Q (.ref s.heap.objs.size) t) : wpAny (model P w) A (call (.type "set") [.ref l]) Q E s := by
  obtain ⟨c, tl, f1⟩ := F.called_set.mro
  have f2 := F.called_set.made
  have f3 := F.called_set.sub
  have f4 := F.called_set.notType
  have f5 := F.called_set.canCreate
  have f6 := F.typeCall_set_1 (.ref l)
  apply wpAny_call
  apply codeAny_of_tree
  change wpAny _ _ (callAny (.type "set") _) _ _ _
  apply wpAny_pure
  refine ⟨Code.quiet_builtin _ (by decide +kernel), ?_⟩
  apply codeAny_builtin F.entry_type_call
  rw [Around.under_plain (weight_type_call_type "set" [.ref l] []) rfl]
  repeat (any_goals (first | assumption | wp_step))
  apply codeAny_mono (code_set_led1 (.ref l) (E := E) (Q₁ := fun obj t => obj = .ref s.heap.objs.size ∧ t = s1 w s) ⟨rfl, rfl⟩)
  intro r t hr
  rcases r with e | fl
  · exact hr
  cases fl with
  | ret obj =>
    obtain ⟨rfl, rfl⟩ := hr
    have gS : (s1 w s).heap.get? s.heap.objs.size = some (so w) := Heap.get?_push_size _ rfl
    have tS : (s1 w s).TypeIs (.ref s.heap.objs.size) "set" := ⟨_, gS, rfl⟩
    have f7 := F.called_set.init.lookup
    have f8 := F.called_set.init.bind (.ref s.heap.objs.size)
    repeat (any_goals (first | assumption | wp_step))
    apply codeAny_mono (codeAny_call_builtin (R := wants (fun r t => r = .none ∧ Filled w s ns t) E) F.called_set.init.plain F.entry_set_init (check_set_init_1 tS (init_l hh hl hi hb)))
    intro r2 t2 hr2
    rcases r2 with e2 | fl2
    · exact hr2
    cases fl2 with
    | ret r =>
      obtain ⟨rfl, F⟩ := hr2
      repeat (any_goals (first | assumption | wp_step))
      exact h _ F
    | _ => exact hr2.elim
  | _ => exact hr.elim
end
section
variable {X : Cx}
/-- set(xs), xs a list or a tuple of ints -/
def rSetLT (K : PySem.W.Frag) (w : World) : List V → Hp → VK → Prop := fun vs H Q => ∃ (p : Addr) (ns : List Int), vs = [.ref p] ∧ (SqL K H p (ns.map V.int) ∨ SqT K H p (ns.map V.int)) ∧ ns.length ≤ 1000 ∧ ∀ (q : Addr) (n : Nat), H q = none → n ≤ ns.length → Q (.ref q) (upd H q (SetO w q (fun j => decide (j ∈ ns)) n))
theorem cr_setLT (hc : X.calm = true) : CallR X (.type "set") (rSetLT X.K X.w) := by
  intro pins s σ H vs us Q I r h
  obtain ⟨p, ns, rfl, hq, hl, q⟩ := h
  rw [Vals.ref1 r]
  have hd := I.ok.hd hc
  have hs : ns.length + 1 < scanBound := by unfold scanBound; omega
  rcases hq with hq | hq
  · obtain ⟨its, rv, pt, hz⟩ := I.list hq
    apply call_l hd pt.isList (ns := ns) (ints_of_vals rv) hs
    rintro _ ⟨h', tk, c, rfl, R, hc, k⟩
    exact ⟨.ref _, _, I.laid (t' := tk) k (Nat.le_refl _) (setO_new R), rfl, q _ _ (I.hok.fresh (Nat.le_refl _)) hc⟩
  · obtain ⟨its, rv, pt, hz⟩ := I.tuple hq
    apply call_set_tupI ns hd (show s.heap.IsTuple p its.toArray from pt) (ints_of_vals rv) hs
    intro h' tk c R hc k
    exact ⟨.ref _, _, I.laid (t' := tk) k (Nat.le_refl _) (setO_new R), rfl, q _ _ (I.hok.fresh (Nat.le_refl _)) hc⟩
end
end SLT

namespace SDT
open PySem PySem.Spec PyProof.Rows L2
section
variable {prog : Program} {w : World} {A : Around} {d : Addr} {o : Obj} {es : Array DictEntry} {ep : Nat}
theorem walks_at (hh : A.handled = none) (I : Addr) (hne : d ≠ I) (hdat : o.data = .dict es ep) :
    Walks prog w A I [I, d] [I] es.size (fun i v => ∃ en, es[i]? = some en ∧ v = en.key) (fun i h => h.IsKeyIter I d i es.size ep ∧ h.get? d = some o) where
  sub := fun b hb => by simp at hb; simp [hb]
  frame := fun _ _ _ st hk => ⟨st.1.at fun o e => hk I (by simp) o e, hk d (by simp) _ st.2⟩
  item := fun i s Q E hi st hQ => by
    obtain ⟨en, hx⟩ : ∃ p, es[i]? = some p := ⟨es[i], by simp [hi]⟩
    refine next_key_item st.1 st.2 hdat rfl hx fun h' hit' hs' => ?_
    exact hQ en.key h' s.toks ⟨en, hx, rfl⟩ ⟨hit', (hs'.2 d hne).trans st.2⟩ fun b o hb e => hs'.extBut b o (fun h => hb (by simp [h])) e
  done := fun s Q E st hQ => next_key_end hh st.1 st.2 hdat rfl (Nat.le_refl _) fun h' he' => hQ h' s.toks fun b o hb e => he' b o (fun h => hb (by simp [h])) e
  self := fun _ _ _ _ st hQ => wpAny_pyIter_keyiter st.1 hQ
theorem src_at (lo : (d == sysModules) = false) (hc : o.ExactDict) (hdat : o.data = .dict es ep) : PySem.W.KdlSrc prog w "dict" d d es.size (fun i v => ∃ en, es[i]? = some en ∧ v = en.key) (fun h => h.get? d = some o) where
  type := fun _ hm => ⟨_, hm, hc.1⟩
  there := fun _ hm => ⟨Heap.lt_size hm, Heap.lt_size hm⟩
  keep := fun _ _ hm hk => hk d (.inl rfl) _ hm
  notList := by decide
  notTuple := by decide
  hint := fun _ _ _ _ hm hq => PySem.W.kdl_hint_dict ⟨_, hm, hc.1⟩ hq
  iter := fun _ s hh hm => ⟨_, _, (fun _ _ hq => iter_keys lo hm hc hdat hq), walks_at hh _ (Nat.ne_of_lt (Heap.lt_size hm)) hdat, ⟨⟨_, Heap.get?_push_size _ rfl, rfl, rfl⟩, Heap.get?_push_of_some _ hm⟩⟩
end
def lexI (p q : Int × Int) : Prop := p.1 < q.1 ∨ (p.1 = q.1 ∧ p.2 ≤ q.2)
def ik (p : Int × Int) : List Key := [.inl p.1, .inl p.2]
theorem lex_tot (p q : Int × Int) : ¬ (SrtO.lexB p q = true) → lexI q p := by
  intro h
  have h2 : ¬ (p.1 < q.1 ∨ (p.1 = q.1 ∧ p.2 < q.2)) := fun z => h (SrtO.lexB_iff.mpr z)
  unfold lexI
  omega
section
variable {X : Cx}
/-- sorted(d), d a dict of pairs of ints -/
def rSortedDT : List V → Hp → VK → Prop := fun vs H Q => ∃ (a : Addr) (kvs : List (List Key × V)) (ks : List (Int × Int)), vs = [V.ref a] ∧ H a = some (.dT kvs) ∧ kvs.map (·.1) = ks.map ik ∧
  ∀ (zs : List (Int × Int)) (ys : List V) (p : Addr), zs.Perm ks → zs.Pairwise lexI → ys.length = zs.length → (∀ (i : Nat) (y : V) (z : Int × Int), ys[i]? = some y → zs[i]? = some z → ∃ t, y = .ref t ∧ H t = some (.tup [.int z.1, .int z.2])) → H p = none → Q (.ref p) (upd H p (.lst ys))
theorem cr_sortedDT (hcalm : X.calm = true) : CallR X (.builtin "sorted") rSortedDT := by
  intro pins s σ H vs us Q I r h
  obtain ⟨a, kvs, ks, rfl, ha, hks, q⟩ := h
  rw [Vals.ref1 r]
  obtain ⟨z, lo, xs, pr, o, es, ep, ho, hx, hdt, he, nd⟩ := I.hok a _ ha
  have hsz : es.size = xs.length := size_of_entries he
  have hl : kvs.length = xs.length := Paired.length pr
  have hlk : kvs.length = ks.length := by
    have e := congrArg List.length hks
    rwa [List.length_map, List.length_map] at e
  refine Calls.call_function_entry PyProof.Rows.kind_sorted PyProof.Rows.plain_sorted PyProof.Rows.entry_sorted (PyProof.Rows.args_sorted1 _) ?_
  unfold Builtin.«sorted»
  refine wpAny_bind (m := checkCount "sorted" 1 1 _) (wpAny_pure ?_)
  refine wpAny_bind (PySem.W.kdu_collect (A := X.A.in1) (src_at lo hx hdt) (I.ok.hd hcalm) ho (by rw [hsz, ← hl]; exact z) fun h' tk acc hk hacc => ?_)
  have hal : acc.toList.length = ks.length := by rw [Array.length_toList, hacc.1, hsz, ← hl, hlk]
  have I1 : Inv X pins σ H { s with heap := h', toks := tk } := I.kept hk
  have hat : ∀ (j : Nat) (v : Value), acc.toList[j]? = some v → ∃ (k : Int × Int) (t : Addr), ks[j]? = some k ∧ v = .ref t ∧ H t = some (.tup [.int k.1, .int k.2]) := fun j v e => by
    obtain ⟨en, e1, e2⟩ := hacc.2 j v (by rw [← Array.getElem?_toList]; exact e)
    have hj : j < ks.length := by rw [← hal]; exact (List.getElem?_eq_some_iff.mp e).1
    have ekv : kvs[j]? = some kvs[j] := List.getElem?_eq_getElem (by omega)
    obtain ⟨b, hb, f1, f2, _⟩ := paired_get pr ekv
    have eq := entry_at he j
    rw [hb] at eq
    have e3 : es[j]? = some _ := eq
    rw [e1] at e3
    have e5 : (kvs.map (·.1))[j]? = some kvs[j].1 := by rw [List.getElem?_map, ekv]; rfl
    rw [hks, List.getElem?_map, List.getElem?_eq_getElem hj] at e5
    have e6 : ik ks[j] = kvs[j].1 := Option.some.inj e5
    refine ⟨ks[j], b.2.1, List.getElem?_eq_getElem hj, ?_, ?_⟩
    · rw [e2, Option.some.inj e3]
      rfl
    · rw [← e6] at f2
      exact f2
  have e2 : ∀ v ∈ acc.toList, ∃ t, v = Value.ref t := fun v hv => by
    obtain ⟨j, hj⟩ := List.mem_iff_getElem?.mp hv
    obtain ⟨k, t, _, e, _⟩ := hat j v hj
    exact ⟨t, e⟩
  have tup2 : ∀ {t : Addr} {x y : Int}, H t = some (.tup [.int x, .int y]) → Srt.IsPair h' (.ref t) x y := fun ht => by
    obtain ⟨_, its2, r2, o, ho, hc, n, hd⟩ := I1.hok _ _ ht
    obtain ⟨u1, u2, rfl, ri, rj⟩ := vals2 r2
    obtain ⟨t1, rfl⟩ := ri
    obtain ⟨t2, rfl⟩ := rj
    exact ⟨_, o, t1, t2, n, rfl, ho, hc, hd⟩
  let kf : Value → Int × Int := fun v => match v with
    | .ref t => (match H t with
      | some (.tup [.int x, .int y]) => (x, y)
      | _ => (0, 0))
    | _ => (0, 0)
  have kf_at : ∀ {t : Addr} {x y : Int}, H t = some (.tup [.int x, .int y]) → kf (.ref t) = (x, y) := fun ht => by
    show (match H _ with
      | some (.tup [.int x, .int y]) => (x, y)
      | _ => (0, 0)) = _
    rw [ht]
  have hmap : acc.toList.map kf = ks := by
    refine List.ext_getElem? fun j => ?_
    rw [List.getElem?_map]
    cases ej : acc.toList[j]? with
    | none =>
      rw [List.getElem?_eq_none_iff] at ej
      exact (List.getElem?_eq_none (by omega)).symm
    | some v =>
      obtain ⟨k, t, e3, e4, e5⟩ := hat j v ej
      rw [e3]
      show some (kf v) = some k
      rw [e4, kf_at e5]
  refine wpAny_bind (wpAny_newList ?_ (by rw [hal, ← hlk]; exact z))
  have hoL : (h'.push (seqObj "list" acc.toList.toArray 0)).get? h'.objs.size = some (seqObj "list" acc.toList.toArray 0) := Heap.get?_push_size _ rfl
  show wpAny _ _ _ _ _ { s with heap := h'.push (seqObj "list" acc.toList.toArray 0), toks := tk }
  refine wpAny_bind (wpAny_holding (wpAny_call_entry PyProof.Rows.slot_list_sort ⟨_, hoL, rfl⟩ PyProof.Rows.entry_list_sort
    (SrtO.list_sort_ord (s := { s with heap := h'.push (seqObj "list" acc.toList.toArray 0), toks := tk }) (SrtO.swo_lex kf) hoL (by rw [hal, ← hlk]; exact z) (fun h2 => SrtO.pairs_sortableO (by omega) (fun v hv => ?_) fun o' e => ?_) fun out h1 h2 => ⟨_, rfl, ?_⟩) (PyProof.Rows.args_list_sort _)))
  · obtain ⟨j, hj⟩ := List.mem_iff_getElem?.mp hv
    obtain ⟨k, t, e3, e4, e5⟩ := hat j v hj
    rw [e4, kf_at e5]
    obtain ⟨t', o', t1, t2, n, g1, g2, g3, g4⟩ := tup2 e5
    exact ⟨t', o', t1, t2, n, g1, Heap.get?_push_of_some _ g2, g3, g4⟩
  · have e' : some o' = some (seqObj "list" acc.toList.toArray 0) := e.symm.trans hoL
    cases e'
    intro c
    exact absurd (Value.type.inj c) (by decide)
  · obtain ⟨e', he'⟩ := PyProof.Rows.sortedHeap_at (vs := acc.toList) (out := out.toArray) hoL
    have hp := h2.perm
    have h3 : ∀ u ∈ out, ∃ a, u = Value.ref a := fun u hu => e2 u (hp.mem_iff.mp hu)
    have hlen : (out.map backV).length ≤ sizeLine := by
      rw [List.length_map, hp.length_eq, hal, ← hlk]
      exact z
    refine wpAny_pure ⟨_, rfl, .ref h'.objs.size, upd H h'.objs.size (.lst (out.map backV)), I1.laid (t' := tk) (fun b u e => ?_) (Nat.le_refl _)
      (show ObjOk X.prog X.w _ _ _ (.lst (out.map backV)) from ⟨hlen, out, e', vals_back h3, he'⟩), rfl, q (out.map kf) _ _ ?_ ?_ (by rw [List.length_map, List.length_map]) (fun i y zz hy hz => ?_) (I1.hok.fresh (Nat.le_refl _))⟩
    · have hb : b < h'.objs.size := Heap.lt_size e
      rw [PyProof.Rows.sortedHeap_old (Nat.ne_of_lt hb) (by rw [size_push']; exact Nat.lt_succ_of_lt hb)]
      exact Heap.get?_push_of_some _ e
    · have := hp.map kf
      rwa [hmap] at this
    · refine List.pairwise_map.mpr (h1.imp fun {x y} g => lex_tot _ _ ?_)
      intro z
      rw [show SrtO.lexB (kf y) (kf x) = false from g] at z
      cases z
    · rw [List.getElem?_map] at hy hz
      cases eo : out[i]? with
      | none => rw [eo] at hy; cases hy
      | some u =>
        rw [eo] at hy hz
        obtain rfl : backV u = y := Option.some.inj hy
        obtain rfl : kf u = zz := Option.some.inj hz
        obtain ⟨j, hj⟩ := List.mem_iff_getElem?.mp (hp.mem_iff.mp (List.mem_of_getElem? eo))
        obtain ⟨k, t, e3, e4, e5⟩ := hat j u hj
        rw [e4, kf_at e5]
        exact ⟨t, rfl, e5⟩
end
end SDT

namespace X2
open PySem PySem.Spec PyProof.Rows L2
/-! exceptions of own classes over an own base, with an __init__ that calls the base's and keeps one field -/
/-- what the text leaves of such a class C, its __init__ at fI, its field n -/
structure XO (K : PySem.W.Frag) (C fI : Addr) (n : Str) : Prop where
  ox : OexC K C
  xc : ExcC K C
  no : PySem.W.findIn K (.ref C) n = some none
  ii : PySem.W.findIn K (.ref C) "__init__" = some (some (.ref fI))
  ti : PySem.W.typeIn K (.ref fI) = some (.type "function")
theorem XO.xf {K : PySem.W.Frag} {C fI : Addr} {n : Str} (T : XO K C fI n) : XfC K C := ⟨T.xc.hg, T.xc.hk, T.xc.hs, T.xc.hd⟩
/-- the base B, whose __init__ is ValueError's -/
structure XB (K : PySem.W.Frag) (B : Addr) : Prop where
  rd : PySem.W.readsIn K B (.type "type") = true
  ga : PySem.W.specialIn K (.ref B) "__getattribute__" = some (some (.builtin "type.__getattribute__"))
  vi : PySem.W.findCls K (.ref B) (.type "type") "__init__" = some (.val (.builtin "ValueError.__init__"))
section
variable {X : Cx} {e : Expr} {es : List Expr} {ta : TA} {p1 p2 pos : Pos} {x : Str} {B : Addr}
/-- B.__init__(self, ..) -/
theorem pe_binit {pl : Sem Bool} (hg : Gl X x) (hm : X.mg x = some (.ref B)) (T : XB X.K B) (ha : PA X (e :: es) ta)
    (hdb : (x == ("__debug__" : Str)) = false := by decide)
    (hc : eval (.Call (.Attribute (.Name x p1) "__init__" p2) (e :: es) [] pos) X.env = (do
      let bv ← eval (.Name x p1) X.env
      standAt p2.atName
      let (fn, fst) ← holding [bv] (getMethod bv "__init__" pl)
      callWith pos fn fst (backTo pos (starEach (e :: es) X.env)) (backToKw pos (keywordEach [] X.env))) := by rfl)
    (he : starEach (e :: es) X.env = (false, eval e X.env) :: starEach es X.env := by rfl) (hpl : (backTo pos (starEach es X.env)).any (·.1) = false := by rfl) :
    PE X (.Call (.Attribute (.Name x p1) "__init__" p2) (e :: es) [] pos) (tVeI X.K ta) := by
  refine ⟨fun pins s σ H Q I h => ?_⟩
  refine PySem.W.methodCall_KW (ld_glob I hg hm ?_ hdb) hc
  refine PySem.W.method_cls I.kIn T.ga (PySem.W.cls_value I.kIn T.rd T.vi (by decide +kernel) ?_)
  show wpAny _ _ (callWith pos (Value.builtin "ValueError.__init__") [] (backTo pos (starEach (e :: es) X.env)) []) _ _ _
  refine PyProof.Rows.callWith_method1 (thn (ha.run pos pins _ σ H _ (I.tok _) h) fun us s1 hh => ?_) he hpl
  obtain ⟨vs, H1, I1, r1, a, C, ws, ev, hl, TC, ea, q⟩ := hh
  subst ev
  cases r1 with
  | @cons _ u0 _ ur ra rw' =>
    obtain rfl : u0 = Value.ref a := ra
    have hz : ur.length ≤ sizeLine := by
      rw [← Paired.length rw', sizeLine_eq]
      omega
    exact oinit_ok TC I1 ea hz fun s' J => ⟨.non, H1, J, rfl, q⟩
end
/-- isinstance(e, c), e the exception that the suite holds, with or without a dict -/
def hasD (H : Hp) (d : Option Addr) : Prop := d = none ∨ ∃ dd fs, d = some dd ∧ H dd = some (.xd fs)
def rIsX1 (K : PySem.W.Frag) (a : Addr) (cls : Value) (d : Option Addr) : List V → Hp → VK → Prop := fun xs H Q => ∃ (D : Addr) (c : V) (cv : Value) (b : Bool), cls = .ref D ∧ hasD H d ∧ ExcC K D ∧ xs = [.ref a, c] ∧ ClsV c cv ∧ PySem.W.kitOne K (.ref D) cv = some b ∧ Q (.bl b) H
def rIsXT (K : PySem.W.Frag) (a : Addr) (cls : Value) (d : Option Addr) : List V → Hp → VK → Prop := fun xs H Q => ∃ (D tp : Addr) (cs : List V) (us : List Value) (b : Bool), cls = .ref D ∧ hasD H d ∧ ExcC K D ∧ xs = [.ref a, .ref tp] ∧ H tp = some (.tup cs) ∧ Paired ClsV cs us ∧ PySem.W.kitAny K (.ref D) us = some b ∧ Q (.bl b) H
theorem isx_at {X : Cx} {pins : List (Addr × Obj)} {σ : L2.St} {H : Hp} {s : Shared} {a D : Addr} {d : Option Addr} {oe : Obj} (I : Inv X pins σ H s) (hz : Zc (.ref D) d oe) (hf : ∃ vs, oe.data = .fields vs) (hget : s.heap.get? a = some oe) (hd : hasD H d) : ∃ od, PySem.W.InstAt s.heap a oe D od := by
  obtain ⟨vs, hv⟩ := hf
  rcases hd with e | ⟨dd, fs, e, ha⟩
  · subst e
    refine ⟨none, hget, hz.1, by unfold PySem.W.notCls; rw [hv] <;> rfl, ?_⟩
    rw [hz.2]
    trivial
  · subst e
    have ok : ObjOk X.prog X.w H s.heap dd (.xd fs) := I.hok dd _ ha
    obtain ⟨mA, hns, hr⟩ := ok
    obtain ⟨od, ho, hl⟩ := lookIn_ns hns
    refine ⟨some od, hget, hz.1, by unfold PySem.W.notCls; rw [hv] <;> rfl, ?_⟩
    rw [hz.2]
    exact ho
theorem xc_cls {K : PySem.W.Frag} {D : Addr} (C : ExcC K D) : (PySem.W.clsIn K D).isSome = true := by
  obtain ⟨cd, hc, _⟩ := PySem.W.any_some C.hd
  rw [hc]
  rfl
theorem call_isX1 {X : Cx} {a : Addr} {cls : Value} {d : Option Addr} {oe : Obj} {pn : List (Addr × Obj)} (hz : Zc cls d oe) (hf : ∃ vs, oe.data = .fields vs) : CallR (X.suite a ((a, oe) :: pn)) (.builtin "isinstance") (rIsX1 X.K a cls d) := by
  intro pins s σ H xs us Q I r h
  obtain ⟨D, c, cv, b, rfl, hd, C, rfl, k, e, q⟩ := h
  obtain ⟨u1, u2, rfl, r1, r2⟩ := vals2 r
  cases (show u1 = Value.ref a from r1)
  have e2 := k.eq r2
  subst e2
  obtain ⟨hget, _⟩ := I.pin (a, oe) (List.mem_append.mpr (.inl List.mem_cons_self))
  obtain ⟨od, J⟩ := isx_at I hz hf hget hd
  exact PySem.W.kia_one (PySem.W.kitx_exc (xc_cls C) C.hg C.hk C.hs C.ha C.hn C.ht C.hm) I.kIn J e (fun z => nomatch z) fun tk => ⟨.bl b, H, I.kept (t' := tk) fun _ _ z => z, rfl, q⟩
theorem call_isXT {X : Cx} {a : Addr} {cls : Value} {d : Option Addr} {oe : Obj} {pn : List (Addr × Obj)} (hz : Zc cls d oe) (hf : ∃ vs, oe.data = .fields vs) : CallR (X.suite a ((a, oe) :: pn)) (.builtin "isinstance") (rIsXT X.K a cls d) := by
  intro pins s σ H xs us Q I r h
  obtain ⟨D, tp, cs, ws, b, rfl, hd, C, rfl, hT, k, e, q⟩ := h
  obtain ⟨u1, u2, rfl, r1, r2⟩ := vals2 r
  cases (show u1 = Value.ref a from r1)
  cases (show u2 = Value.ref tp from r2)
  obtain ⟨hget, _⟩ := I.pin (a, oe) (List.mem_append.mpr (.inl List.mem_cons_self))
  obtain ⟨_, its, rv, o, h1, h2, n, h3⟩ := (show ObjOk X.prog X.w H s.heap tp (.tup cs) from I.hok tp _ hT)
  have e3 := ClsV.all k rv
  subst e3
  obtain ⟨od, J⟩ := isx_at I hz hf hget hd
  obtain ⟨oc, od', dt, sl⟩ := o
  simp only at h2 h3
  subst h2 h3
  exact PySem.W.kia_tup (PySem.W.kitx_exc (xc_cls C) C.hg C.hk C.hs C.ha C.hn C.ht C.hm) I.kIn J h1 e (fun z => nomatch z) fun tk => ⟨.bl b, H, I.kept (t' := tk) fun _ _ z => z, rfl, q⟩
section
variable {K : PySem.W.Frag} {a D dd : Addr} {fs : List (Str × V)} {H : Hp} {Q : VK} {b : Bool}
theorem w_isX1 {c : V} {cv : Value} (C : ExcC K D) (hd : H dd = some (.xd fs)) (k : ClsV c cv) (e : PySem.W.kitOne K (.ref D) cv = some b) (q : Q (.bl b) H) : rIsX1 K a (.ref D) (some dd) [.ref a, c] H Q := ⟨D, c, cv, b, rfl, .inr ⟨dd, fs, rfl, hd⟩, C, rfl, k, e, q⟩
theorem w_isXT {tp : Addr} {cs : List V} {us : List Value} (C : ExcC K D) (hd : H dd = some (.xd fs)) (hT : H tp = some (.tup cs)) (k : Paired ClsV cs us) (e : PySem.W.kitAny K (.ref D) us = some b) (q : Q (.bl b) H) : rIsXT K a (.ref D) (some dd) [.ref a, .ref tp] H Q := ⟨D, tp, cs, us, b, rfl, .inr ⟨dd, fs, rfl, hd⟩, C, rfl, hT, k, e, q⟩
theorem w_xfv {C : Addr} {f : Str} {v : V} {σ : L2.St} {i : Nat} (hs : σ[i]? = some (some (.ref a))) (hd : H dd = some (.xd fs)) (hl : fs.lookup f = some v) (q : Q v H) : tXf a (.ref C) (some dd) C f (tVar i) σ H Q := ⟨_, hs, rfl, rfl, dd, fs, v, rfl, hd, hl, q⟩
end
/-- what C(v) leaves: a new dict with the one field -/
def InitEnd (C : Addr) (n : Str) (v : V) : Sp := fun vs H Q _ => ∃ a, vs = [.ref a, v] ∧ H a = some (exo a C none) ∧ ∀ dx, H dx = none → dx ≠ a → Q .non (upd (upd H dx (exd dx [(n, v)])) a (exo a C (some dx)))
section
variable {K : PySem.W.Frag} {σ : L2.St} {H : Hp} {Q : VK} {ta : TA} {D : Ends} {te t : TE} {ts : List TE} {acc : Str}
def rVeI (K : PySem.W.Frag) : List V → Hp → VK → Prop := fun vs H1 Q => ∃ (a C : Addr) (ws : List V), vs = .ref a :: ws ∧ ws.length ≤ 1000 ∧ OexC K C ∧ H1 a = some (exo a C none) ∧ Q .non H1
theorem w_veI (h : ta σ H fun vs H1 => rVeI K vs H1 Q) : tVeI K ta σ H Q := h
theorem use_veI {a C : Addr} {x : V} (T : OexC K C) (h : H a = some (exo a C none)) (q : Q .non H) : rVeI K [.ref a, x] H Q := ⟨a, C, [x], rfl, by simp, T, h, q⟩
theorem w_js {R : Str → Hp → Prop} (h : t σ H fun x H1 => ∃ y : Str, x = .str y ∧ (acc ++ y).length ≤ sizeLine ∧ tJs ts (acc ++ y) σ H1 R) : tJs (t :: ts) acc σ H R := h
theorem w_jn {R : Str → Hp → Prop} (h : R acc H) : tJs [] acc σ H R := h
theorem w_fmtI {i : Int} {j : Nat} (e : σ[j]? = some (some (.int i))) (hi : i.natAbs.log2 < 1920) (q : Q (.str (toString i)) H) : tFmtR (tVar j) σ H Q := ⟨_, e, .inr ⟨i, rfl, hi, q⟩⟩
theorem w_fmtS {y : Str} {j : Nat} (e : σ[j]? = some (some (.str y))) (hy : (reprText y).length ≤ sizeLine) (q : Q (.str (reprText y)) H) : tFmtR (tVar j) σ H Q := ⟨_, e, .inl ⟨y, rfl, hy, q⟩⟩
/-- self.f = e, the first and only one -/
theorem w_ost {f : Str} {to : TE} {a C : Addr} {y : V} {j k : Nat} (e1 : σ[k]? = some (some y)) (e2 : σ[j]? = some (some (.ref a))) (T : OexC K C) (no : PySem.W.findIn K (.ref C) f = some none) (h : H a = some (exo a C none)) (q : ∀ dx, H dx = none → dx ≠ a → D.nx σ (upd (upd H dx (exd dx [(f, y)])) a (exo a C (some dx)))) :
    tOst K f (tVar j) (tVar k) D σ H := ⟨y, e1, .ref a, e2, a, C, rfl, T, no, .inl ⟨h, q⟩⟩
theorem len_cat {x y : Str} {m n : Nat} (h1 : x.length ≤ m) (h2 : y.length ≤ n) : (x ++ y).length ≤ m + n := by
  have e : (x ++ y).length = x.length + y.length := by
    rw [TL.len_tl, TL.tl_append, List.length_append, ← TL.len_tl, ← TL.len_tl]
  omega
theorem len_int {i : Int} (h : i.natAbs < 10 ^ 60) : (Str.ofString (toString i)).length ≤ 61 := by
  by_cases hn : i < 0
  · have k := TL.numL_len (n := (0 - i).natAbs) (k := 60) (by decide) (by omega)
    have e : 0 - i = (((0 - i).natAbs : Nat) : Int) := by omega
    rw [PyProof.Rows.len_text_neg hn, e, TL.len_tl, TL.tl_num]
    omega
  · have k := TL.numL_len (n := i.natAbs) (k := 60) (by decide) h
    have e : i = ((i.natAbs : Nat) : Int) := by omega
    rw [e, TL.len_tl, TL.tl_num]
    omega
theorem log_int {i : Int} (h : i.natAbs < 10 ^ 60) : i.natAbs.log2 < 1920 := by
  have k : i.natAbs.log2 < 200 := PySem.Flt.log2_lt_of (by decide) (show i.natAbs < 2 ^ 200 by omega)
  omega
end
def rMk (C : Addr) (sp : Sp) : List V → Hp → XK → Prop := fun vs H1 Q => vs.length ≤ 1000 ∧ ∀ a, H1 a = none → sp (.ref a :: (vs ++ [])) (upd H1 a (exo a C none))
  (fun v H2 => v = .non ∧ ∃ (d : Addr) (fs : List (Str × V)), H2 a = some (exo a C (some d)) ∧ H2 d = some (exd d fs) ∧ H1 d = none ∧ Q (.ref C) (some d) (upd (del H2 a) d (.xd fs))) (fun _ _ _ => False)
theorem w_mkO {C : Addr} {sp : Sp} {ta : TA} {σ : L2.St} {H : Hp} {Q : XK} (h : ta σ H fun vs H1 => rMk C sp vs H1 Q) : tMkO C sp [] ta σ H Q := h
theorem use_mk {C : Addr} {n : Str} {v : V} {sp : Sp} {H1 : Hp} {Q : XK} (hsp : ∀ (vs : List V) (H : Hp) (Q : VK) (E : XK), InitEnd C n v vs H Q E → sp vs H Q E) (q : ∀ d, H1 d = none → Q (.ref C) (some d) (upd H1 d (.xd [(n, v)]))) : rMk C sp [v] H1 Q := by
  refine ⟨by simp, fun a ha => hsp _ _ _ _ ⟨a, rfl, upd_same, fun dx h1 h2 => ⟨rfl, dx, _, upd_same, by rw [upd_ne h2, upd_same], ?_, ?_⟩⟩⟩
  · rw [upd_ne h2] at h1
    exact h1
  · have h3 : H1 dx = none := by rw [upd_ne h2] at h1; exact h1
    have e : upd (del (upd (upd (upd H1 a (exo a C none)) dx (exd dx [(n, v)])) a (exo a C (some dx))) a) dx (.xd [(n, v)]) = upd H1 dx (.xd [(n, v)]) := by
      funext b
      by_cases hb : b = dx
      · rw [hb, upd_same, upd_same]
      · rw [upd_ne hb, upd_ne hb]
        by_cases hba : b = a
        · rw [hba, del_same, ha]
        · rw [del_ne hba, upd_ne hba, upd_ne hb, upd_ne hba]
    rw [e]
    exact q dx h3
end X2

namespace MW
open PySem
/-! words of digits, and the law's own walk over them -/
def dg (c : Nat) : Bool := decide (48 ≤ c) && decide (c ≤ 57)
def d1 (c : Nat) : Bool := decide (49 ≤ c) && decide (c ≤ 57)
def posW : List Nat → Bool
  | [] => false
  | c :: r => d1 c && r.all dg
def strip : List Nat → List Nat
  | [] => []
  | c :: r => if c = 45 then r else c :: r
def wholeW (l : List Nat) : Bool := decide (l = [48]) || posW (strip l)
def dv (l : List Nat) : Nat := NumText.digitsVal l
def vz (l : List Nat) : Int := if l.head? = some 45 then -(dv (strip l) : Int) else (dv (strip l) : Int)
def stp (s c : Nat) : Nat :=
  if s = 0 ∧ c = 45 then 1 else if s = 0 ∧ c = 48 then 2 else if (s = 0 ∨ s = 1) ∧ d1 c = true then 3 else if s = 3 ∧ dg c = true then 3
  else if (s = 2 ∨ s = 3) ∧ c = 47 then 4 else if s = 4 ∧ d1 c = true then 5 else if s = 5 ∧ dg c = true then 5 else 6
/-- '0123456789'.find(c) -/
def fnd (c : Nat) : Int := if dg c = true then (c : Int) - 48 else -1
def rd (s : Nat × Int × Int) (c : Nat) : Nat × Int × Int := (stp s.1 c, (if stp s.1 c = 3 then 10 * s.2.1 + fnd c else s.2.1), (if stp s.1 c = 5 then 10 * s.2.2 + fnd c else s.2.2))
theorem d1_dg {c : Nat} (h : d1 c = true) : dg c = true := by
  simp only [d1, dg, Bool.and_eq_true, decide_eq_true_eq] at *
  omega
theorem stp6 (c : Nat) : stp 6 c = 6 := by simp [stp]
theorem dead (r : List Nat) (t b : Int) : r.foldl rd (6, t, b) = (6, t, b) := by
  induction r with
  | nil => rfl
  | cons c r ih =>
    rw [List.foldl_cons]
    have e : rd (6, t, b) c = (6, t, b) := by simp [rd, stp6]
    rw [e, ih]
theorem stp3 {c : Nat} (h : dg c = true) : stp 3 c = 3 := by simp [stp, h]
theorem stp3n {c : Nat} (h : dg c = false) (h2 : c ≠ 47) : stp 3 c = 6 := by simp [stp, h, h2]
theorem stp5 {c : Nat} (h : dg c = true) : stp 5 c = 5 := by simp [stp, h]
theorem stp5n {c : Nat} (h : dg c = false) : stp 5 c = 6 := by simp [stp, h]
def fz (r : List Nat) (t : Int) : Int := r.foldl (fun a c => 10 * a + fnd c) t
theorem run3 (r : List Nat) (h47 : 47 ∉ r) : ∀ t b : Int, (r.all dg = true → r.foldl rd (3, t, b) = (3, fz r t, b)) ∧ (r.all dg = false → (r.foldl rd (3, t, b)).1 = 6) := by
  induction r with
  | nil => exact fun t b => ⟨fun _ => rfl, fun h => by simp at h⟩
  | cons c r ih =>
    intro t b
    have h2 : c ≠ 47 := fun e => h47 (by simp [e])
    have ih' := ih (fun z => h47 (List.mem_cons_of_mem _ z))
    rw [List.foldl_cons]
    cases hc : dg c with
    | true =>
      have e : rd (3, t, b) c = (3, 10 * t + fnd c, b) := by simp [rd, stp3 hc]
      rw [e]
      refine ⟨fun h => ?_, fun h => ?_⟩
      · rw [List.all_cons, hc, Bool.true_and] at h
        exact (ih' _ _).1 h
      · rw [List.all_cons, hc, Bool.true_and] at h
        exact (ih' _ _).2 h
    | false =>
      have e : rd (3, t, b) c = (6, t, b) := by simp [rd, stp3n hc h2]
      rw [e, dead]
      exact ⟨fun h => by simp [hc] at h, fun _ => rfl⟩
theorem run5 (r : List Nat) : ∀ t b : Int, (r.all dg = true → r.foldl rd (5, t, b) = (5, t, fz r b)) ∧ (r.all dg = false → (r.foldl rd (5, t, b)).1 = 6) := by
  induction r with
  | nil => exact fun t b => ⟨fun _ => rfl, fun h => by simp at h⟩
  | cons c r ih =>
    intro t b
    rw [List.foldl_cons]
    cases hc : dg c with
    | true =>
      have e : rd (5, t, b) c = (5, t, 10 * b + fnd c) := by simp [rd, stp5 hc]
      rw [e]
      refine ⟨fun h => ?_, fun h => ?_⟩
      · rw [List.all_cons, hc, Bool.true_and] at h
        exact (ih _ _).1 h
      · rw [List.all_cons, hc, Bool.true_and] at h
        exact (ih _ _).2 h
    | false =>
      have e : rd (5, t, b) c = (6, t, b) := by simp [rd, stp5n hc]
      rw [e, dead]
      exact ⟨fun h => by simp [hc] at h, fun _ => rfl⟩
theorem all_digits {r : List Nat} (h : r.all dg = true) : NumText.AllDigits r := fun c hc => by
  have := List.all_eq_true.mp h c hc
  simp only [dg, Bool.and_eq_true, decide_eq_true_eq] at this
  exact this
theorem fz_dv : ∀ (r : List Nat) (n : Nat), r.all dg = true → fz r (n : Int) = ((r.foldl (fun acc c => acc * 10 + (c - 48)) n : Nat) : Int)
  | [], _, _ => rfl
  | c :: r, n, h => by
    rw [List.all_cons, Bool.and_eq_true] at h
    have hc : 48 ≤ c ∧ c ≤ 57 := by
      have := h.1
      simp only [dg, Bool.and_eq_true, decide_eq_true_eq] at this
      exact this
    unfold fz
    rw [List.foldl_cons, List.foldl_cons, ← fz_dv r _ h.2]
    have e : 10 * (n : Int) + fnd c = ((n * 10 + (c - 48) : Nat) : Int) := by
      unfold fnd
      rw [if_pos h.1]
      omega
    rw [e]
    rfl
theorem fz_cons {c : Nat} {r : List Nat} (h : (c :: r).all dg = true) : fz r (10 * 0 + fnd c) = (dv (c :: r) : Int) := by
  have e := fz_dv (c :: r) 0 h
  unfold fz at e
  rw [List.foldl_cons] at e
  exact e
theorem pos_all {l : List Nat} (h : posW l = true) : l.all dg = true ∧ l ≠ [] := by
  cases l with
  | nil => simp [posW] at h
  | cons c r =>
    simp only [posW, Bool.and_eq_true] at h
    exact ⟨by simp only [List.all_cons, d1_dg h.1, h.2, Bool.and_self], by simp⟩
/-- what the walk says of a list without a slash -/
def Ra (a : List Nat) (s : Nat × Int × Int) : Prop := s.2.2 = 0 ∧ (s.1 = 0 ∨ s.1 = 1 ∨ s.1 = 2 ∨ s.1 = 3 ∨ s.1 = 6) ∧ ((s.1 = 2 ∨ s.1 = 3) ↔ wholeW a = true) ∧ (wholeW a = true → s.2.1 = (dv (strip a) : Int))
theorem rd0 {c : Nat} {s : Nat} (h : stp s c ≠ 3) (h5 : stp s c ≠ 5) (t b : Int) : rd (s, t, b) c = (stp s c, t, b) := by simp [rd, h, h5]
theorem posW_45 (r : List Nat) : posW (45 :: r) = false := by simp [posW, d1]
theorem posW_48 (r : List Nat) : posW (48 :: r) = false := by simp [posW, d1]
theorem strip_45 (r : List Nat) : strip (45 :: r) = r := rfl
theorem strip_ot {c : Nat} (r : List Nat) (h : c ≠ 45) : strip (c :: r) = c :: r := by
  show (if c = 45 then r else c :: r) = _
  rw [if_neg h]
theorem whole_48 (r : List Nat) : wholeW (48 :: r) = decide (r = []) := by
  unfold wholeW
  rw [strip_ot r (by decide), posW_48, Bool.or_false]
  simp
theorem whole_45 (r : List Nat) : wholeW (45 :: r) = posW r := by
  unfold wholeW
  rw [strip_45]
  simp
theorem whole_ot {c : Nat} (r : List Nat) (h : c ≠ 45) (h2 : c ≠ 48) : wholeW (c :: r) = posW (c :: r) := by
  unfold wholeW
  rw [strip_ot r h]
  simp [h2]
theorem run2 (r : List Nat) (h47 : 47 ∉ r) (t b : Int) : r.foldl rd (2, t, b) = if r = [] then (2, t, b) else (6, t, b) := by
  cases r with
  | nil => rfl
  | cons c r =>
    have h2 : c ≠ 47 := fun e => h47 (by simp [e])
    have e : stp 2 c = 6 := by simp [stp, h2]
    rw [List.foldl_cons, rd0 (by rw [e]; decide) (by rw [e]; decide), e, dead, if_neg (by simp)]
theorem run_pos {c s : Nat} {r : List Nat} (hs : s = 0 ∨ s = 1) (h45 : s = 0 → c ≠ 45 ∧ c ≠ 48) (h47 : 47 ∉ c :: r) :
    (posW (c :: r) = true → (c :: r).foldl rd (s, 0, 0) = (3, (dv (c :: r) : Int), 0)) ∧ (posW (c :: r) = false → ((c :: r).foldl rd (s, 0, 0)).1 = 6 ∧ ((c :: r).foldl rd (s, 0, 0)).2.2 = 0) := by
  have h2 : c ≠ 47 := fun e => h47 (by simp [e])
  have hr : 47 ∉ r := fun z => h47 (List.mem_cons_of_mem _ z)
  cases hc : d1 c with
  | true =>
    have e : stp s c = 3 := by
      rcases hs with rfl | rfl
      · simp [stp, hc, (h45 rfl).1, (h45 rfl).2]
      · simp [stp, hc]
    have e2 : rd (s, 0, 0) c = (3, 10 * 0 + fnd c, 0) := by simp [rd, e]
    rw [List.foldl_cons, e2]
    cases ha : r.all dg with
    | true =>
      rw [(run3 r hr _ _).1 ha, fz_cons (by rw [List.all_cons, d1_dg hc, ha] <;> rfl)]
      exact ⟨fun _ => rfl, fun h => by simp [posW, hc, ha] at h⟩
    | false =>
      refine ⟨fun h => by simp [posW, hc, ha] at h, fun _ => ⟨(run3 r hr _ _).2 ha, ?_⟩⟩
      have key : ∀ (r : List Nat), 47 ∉ r → ∀ t : Int, (r.foldl rd (3, t, 0)).2.2 = 0 := by
        intro r
        induction r with
        | nil => exact fun _ t => rfl
        | cons c r ih =>
          intro h t
          have h2 : c ≠ 47 := fun e => h (by simp [e])
          rw [List.foldl_cons]
          cases hc : dg c with
          | true =>
            have e : rd (3, t, 0) c = (3, 10 * t + fnd c, 0) := by simp [rd, stp3 hc]
            rw [e]
            exact ih (fun z => h (List.mem_cons_of_mem _ z)) _
          | false =>
            have e : rd (3, t, 0) c = (6, t, 0) := by simp [rd, stp3n hc h2]
            rw [e, dead]
      exact key r hr _
  | false =>
    have e : stp s c = 6 := by
      rcases hs with rfl | rfl
      · simp [stp, hc, (h45 rfl).1, (h45 rfl).2]
      · simp [stp, hc]
    rw [List.foldl_cons, rd0 (by rw [e]; decide) (by rw [e]; decide), e, dead]
    exact ⟨fun h => by simp [posW, hc] at h, fun _ => ⟨rfl, rfl⟩⟩
theorem runA (a : List Nat) (h47 : 47 ∉ a) : Ra a (a.foldl rd (0, 0, 0)) := by
  cases a with
  | nil => exact ⟨rfl, .inl rfl, by simp [wholeW, strip, posW], by simp [wholeW, strip, posW]⟩
  | cons c r =>
    have hr : 47 ∉ r := fun z => h47 (List.mem_cons_of_mem _ z)
    by_cases h45 : c = 45
    · subst h45
      have e : stp 0 45 = 1 := by decide
      rw [List.foldl_cons, rd0 (by rw [e]; decide) (by rw [e]; decide), e]
      unfold Ra
      rw [whole_45]
      have es : strip (45 :: r) = r := strip_45 r
      rw [es]
      cases r with
      | nil => exact ⟨rfl, .inr (.inl rfl), by simp [posW], by simp [posW]⟩
      | cons d r =>
        have k := run_pos (c := d) (s := 1) (r := r) (.inr rfl) (fun z => by cases z) hr
        cases hp : posW (d :: r) with
        | true =>
          rw [k.1 hp]
          exact ⟨rfl, .inr (.inr (.inr (.inl rfl))), by simp, fun _ => rfl⟩
        | false =>
          obtain ⟨k1, k2⟩ := k.2 hp
          exact ⟨k2, .inr (.inr (.inr (.inr k1))), by rw [k1]; simp, by simp⟩
    · by_cases h48 : c = 48
      · subst h48
        have e : stp 0 48 = 2 := by decide
        rw [List.foldl_cons, rd0 (by rw [e]; decide) (by rw [e]; decide), e, run2 r hr]
        unfold Ra
        rw [whole_48]
        by_cases hn : r = []
        · subst hn
          exact ⟨rfl, .inr (.inr (.inl rfl)), by simp, fun _ => by decide⟩
        · rw [if_neg hn]
          exact ⟨rfl, .inr (.inr (.inr (.inr rfl))), by simp [hn], by simp [hn]⟩
      · have k := run_pos (c := c) (s := 0) (r := r) (.inl rfl) (fun _ => ⟨h45, h48⟩) h47
        unfold Ra
        rw [whole_ot r h45 h48]
        have es : strip (c :: r) = c :: r := strip_ot r h45
        rw [es]
        cases hp : posW (c :: r) with
        | true =>
          rw [k.1 hp]
          exact ⟨rfl, .inr (.inr (.inr (.inl rfl))), by simp, fun _ => rfl⟩
        | false =>
          obtain ⟨k1, k2⟩ := k.2 hp
          exact ⟨k2, .inr (.inr (.inr (.inr k1))), by rw [k1]; simp, by simp⟩
/-- behind a slash -/
theorem runB (b : List Nat) (t : Int) : (posW b = true → b.foldl rd (4, t, 0) = (5, t, (dv b : Int))) ∧ (posW b = false → (b.foldl rd (4, t, 0)).1 = 4 ∨ (b.foldl rd (4, t, 0)).1 = 6) := by
  cases b with
  | nil => exact ⟨fun h => by simp [posW] at h, fun _ => .inl rfl⟩
  | cons c r =>
    cases hc : d1 c with
    | true =>
      have e : stp 4 c = 5 := by simp [stp, hc]
      have e2 : rd (4, t, 0) c = (5, t, 10 * 0 + fnd c) := by simp [rd, e]
      rw [List.foldl_cons, e2]
      cases ha : r.all dg with
      | true =>
        rw [(run5 r _ _).1 ha, fz_cons (by rw [List.all_cons, d1_dg hc, ha] <;> rfl)]
        exact ⟨fun _ => rfl, fun h => by simp [posW, hc, ha] at h⟩
      | false => exact ⟨fun h => by simp [posW, hc, ha] at h, fun _ => .inr ((run5 r _ _).2 ha)⟩
    | false =>
      have e : stp 4 c = 6 := by simp [stp, hc]
      rw [List.foldl_cons, rd0 (by rw [e]; decide) (by rw [e]; decide), e, dead]
      exact ⟨fun h => by simp [posW, hc] at h, fun _ => .inr rfl⟩
theorem split47 : ∀ l : List Nat, 47 ∉ l ∨ ∃ a b, l = a ++ 47 :: b ∧ 47 ∉ a
  | [] => .inl (by simp)
  | c :: r => by
    by_cases h : c = 47
    · exact .inr ⟨[], r, by simp [h], by simp⟩
    · rcases split47 r with k | ⟨a, b, rfl, k⟩
      · exact .inl (by simp; exact ⟨fun e => h e.symm, k⟩)
      · exact .inr ⟨c :: a, b, rfl, by simp; exact ⟨fun e => h e.symm, k⟩⟩
theorem whole_free {l : List Nat} (h : wholeW l = true) : 47 ∉ l := by
  intro hm
  cases l with
  | nil => simp at hm
  | cons c r =>
    have key : ∀ m : List Nat, posW m = true → 47 ∉ m := fun m hp z => by
      have := all_digits (pos_all hp).1 47 z
      omega
    by_cases h45 : c = 45
    · subst h45
      rw [whole_45] at h
      rcases List.mem_cons.mp hm with e | z
      · omega
      · exact key r h z
    · by_cases h48 : c = 48
      · subst h48
        rw [whole_48] at h
        simp at h
        subst h
        simp at hm
      · rw [whole_ot r h45 h48] at h
        exact key _ h hm
/-- the walk's end -/
inductive End (l : List Nat) : Nat × Int × Int → Prop where
  | flat (s : Nat × Int × Int) (h : 47 ∉ l) (h5 : s.1 ≠ 5) (hw : (s.1 = 2 ∨ s.1 = 3) ↔ wholeW l = true) : End l s
  | good (a b : List Nat) (e : l = a ++ 47 :: b) (h : 47 ∉ a) (ha : wholeW a = true) (hb : posW b = true) : End l (5, (dv (strip a) : Int), (dv b : Int))
  | bad (s : Nat × Int × Int) (a b : List Nat) (e : l = a ++ 47 :: b) (h : 47 ∉ a) (hn : (wholeW a && posW b) = false) (h5 : s.1 ≠ 5 ∧ s.1 ≠ 2 ∧ s.1 ≠ 3) : End l s
theorem run_end (l : List Nat) : End l (l.foldl rd (0, 0, 0)) := by
  rcases split47 l with h | ⟨a, b, rfl, h⟩
  · obtain ⟨h1, h2, h3, h4⟩ := runA l h
    exact .flat _ h (by omega) h3
  · have ka := runA a h
    have hs : ∃ s t z, a.foldl rd (0, 0, 0) = (s, t, z) := ⟨_, _, _, rfl⟩
    obtain ⟨s, t, z, es⟩ := hs
    have kb : (a ++ 47 :: b).foldl rd (0, 0, 0) = b.foldl rd (rd (s, t, z) 47) := by rw [List.foldl_append, List.foldl_cons, es]
    rw [es] at ka
    obtain ⟨h1, h2, h3, h4⟩ := ka
    dsimp only at h1 h2 h3 h4
    subst h1
    by_cases hw : s = 2 ∨ s = 3
    · have e4 : stp s 47 = 4 := by rcases hw with rfl | rfl <;> decide
      have e5 : rd (s, t, 0) 47 = (4, t, 0) := by rw [rd0 (by rw [e4]; decide) (by rw [e4]; decide), e4]
      have ha := h3.mp hw
      rw [kb, e5]
      cases hp : posW b with
      | true =>
        rw [(runB b t).1 hp, h4 ha]
        exact .good a b rfl h ha hp
      | false => exact .bad _ a b rfl h (by rw [hp, Bool.and_false]) (by rcases (runB b t).2 hp with e | e <;> rw [e] <;> decide)
    · have e4 : stp s 47 = 6 := by rcases h2 with rfl | rfl | rfl | rfl | rfl <;> first | decide | exact absurd (by simp) hw
      have e5 : rd (s, t, 0) 47 = (6, t, 0) := by rw [rd0 (by rw [e4]; decide) (by rw [e4]; decide), e4]
      rw [kb, e5, dead]
      exact .bad _ a b rfl h (by rw [Bool.and_eq_false_iff]; exact .inl (Bool.eq_false_iff.mpr fun z => hw (h3.mpr z))) ⟨by simp, by simp, by simp⟩
theorem dv_zero (l : List Nat) : dv (48 :: l) = dv l := rfl
theorem dv_pos {l : List Nat} (h : posW l = true) : 0 < dv l := by
  cases l with
  | nil => simp [posW] at h
  | cons c r =>
    simp only [posW, Bool.and_eq_true, d1, decide_eq_true_eq] at h
    have key : ∀ (r : List Nat) (n : Nat), 0 < n → 0 < r.foldl (fun acc c => acc * 10 + (c - 48)) n := by
      intro r
      induction r with
      | nil => exact fun n h => h
      | cons d r ih => exact fun n h => ih (n * 10 + (d - 48)) (by omega)
    show 0 < r.foldl (fun acc c => acc * 10 + (c - 48)) (0 * 10 + (c - 48))
    exact key r _ (by omega)
theorem dv_lt : ∀ (l : List Nat), l.all dg = true → dv l < 10 ^ l.length := by
  have key : ∀ (r : List Nat) (n k : Nat), r.all dg = true → n < 10 ^ k → r.foldl (fun acc c => acc * 10 + (c - 48)) n < 10 ^ (k + r.length) := by
    intro r
    induction r with
    | nil => exact fun n k _ h => h
    | cons c r ih =>
      intro n k h hn
      rw [List.all_cons, Bool.and_eq_true] at h
      have hc : c ≤ 57 := by
        have := h.1
        simp only [dg, Bool.and_eq_true, decide_eq_true_eq] at this
        omega
      have := ih (n * 10 + (c - 48)) (k + 1) h.2 (by rw [Nat.pow_succ]; omega)
      rw [List.foldl_cons, List.length_cons, show k + (r.length + 1) = k + 1 + r.length by omega]
      exact this
  intro l h
  have := key l 0 0 h (by decide)
  rw [Nat.zero_add] at this
  exact this
end MW

namespace MT
open PySem PySem.Spec PyProof.Rows L2 MW
open SX (S S_len S_cat S_inj slice_to slice_from num_S)
/-! texts as lists of codes -/
theorem vS_eq {l m : List Nat} : (V.str (S l) = V.str (S m)) ↔ l = m := ⟨fun h => S_inj (V.str.inj h), fun h => by rw [h]⟩
section
variable {A B : Prop} {l m : List Nat} {z : Str}
theorem w_iteS (m : List Nat) (e : z = S m) (h1 : l = m → A) (h2 : l ≠ m → B) : if decide (V.str (S l) = V.str z) = true then A else B := by
  subst e
  by_cases h : l = m
  · rw [if_pos (decide_eq_true (vS_eq.mpr h))]; exact h1 h
  · rw [if_neg (fun k => h (vS_eq.mp (of_decide_eq_true k)))]; exact h2 h
theorem w_iteSN (m : List Nat) (e : z = S m) (h1 : l ≠ m → A) (h2 : l = m → B) : if (!decide (V.str (S l) = V.str z)) = true then A else B := by
  subst e
  by_cases h : l = m
  · rw [decide_eq_true (vS_eq.mpr h)]; exact h2 h
  · rw [decide_eq_false (fun k => h (vS_eq.mp k))]; exact h1 h
end
theorem ascii_S (l : List Nat) : Txt.isascii (S l) = l.all (· < 128) := by
  unfold Txt.isascii S
  simp
theorem starts1 (l : List Nat) (c : Nat) : Txt.startswith (S l) (S [c]) = decide (l.head? = some c) := by
  cases l with
  | nil => simp [Txt.startswith, S, Str.length]
  | cons d r =>
    simp only [Txt.startswith, S_len, List.length_cons, List.length_nil]
    have e : ∀ z : Nat, (⟨#[z]⟩ : Str).length = 1 := fun _ => rfl
    by_cases h : d = c
    · subst h
      simp [Builtin.Str.subAt, S, e]
    · simp [Builtin.Str.subAt, S, h, e]
theorem digit_S (l : List Nat) (h : l.all (· < 128) = true) : Txt.isdigit (S l) = (!l.isEmpty && l.all dg) := by
  have e : ∀ l : List Nat, l.all (· < 128) = true → l.all Unicode.isDigit = l.all dg := by
    intro l
    induction l with
    | nil => exact fun _ => rfl
    | cons c r ih =>
      intro h
      rw [List.all_cons, Bool.and_eq_true] at h
      have k := cls_isdigit c (of_decide_eq_true h.1)
      rw [List.all_cons, List.all_cons, ih h.2, k]
      congr 1
      have k3 : ∀ c, c < 128 → inR 48 57 ⟨#[c]⟩ = dg c := by decide +kernel
      exact k3 c (of_decide_eq_true h.1)
  unfold Txt.isdigit
  rw [S_len]
  have e2 : (S l).cps.all Unicode.isDigit = l.all Unicode.isDigit := by simp [S]
  rw [e2, e l h]
  cases l <;> simp
theorem pos_txt (l : List Nat) : posW l = (Txt.isascii (S l) && (Txt.isdigit (S l) && !Txt.startswith (S l) (S [48]))) := by
  rw [ascii_S]
  cases h : l.all (· < 128) with
  | true =>
    rw [digit_S l h, starts1, Bool.true_and]
    cases l with
    | nil => rfl
    | cons c r =>
      simp only [posW, List.isEmpty_cons, Bool.not_false, Bool.true_and, List.all_cons, List.head?_cons, Option.some.injEq, d1, dg]
      cases r.all dg with
      | false => simp
      | true =>
        simp only [Bool.and_true]
        by_cases h1 : 49 ≤ c
        · by_cases h2 : c ≤ 57
          · simp [h1, h2, show 48 ≤ c by omega, show c ≠ 48 by omega]
          · simp [h1, h2]
        · by_cases h2 : c = 48
          · simp [h2]
          · simp [h1, show ¬ 48 ≤ c by omega]
  | false =>
    rw [Bool.false_and]
    cases l with
    | nil => simp at h
    | cons c r =>
      refine Bool.eq_false_iff.mpr fun k => ?_
      have := (pos_all k).1
      have k2 : (c :: r).all (· < 128) = true := List.all_eq_true.mpr fun d hd => by
        have := all_digits this d hd
        exact decide_eq_true (by omega)
      rw [k2] at h
      cases h
theorem cut_to {l : List Nat} {i : Int} (h : 0 ≤ i) : cutS (S l) none (some i) = S (l.take i.toNat) := by rw [C8.cutS_slice, slice_to h]
theorem cut_from {l : List Nat} {i : Int} (h : 0 ≤ i) : cutS (S l) (some i) none = S (l.drop i.toNat) := by rw [C8.cutS_slice, slice_from h]
theorem rp_S (l : List Nat) : Txt.removeprefix (S l) (S [45]) = S (strip l) := by
  rw [StrLaws.removeprefix_eq]
  have e := starts1 l 45
  unfold Txt.startswith at e
  cases l with
  | nil => rfl
  | cons c r =>
    by_cases h : c = 45
    · subst h
      rw [if_pos (by rw [e]; simp), strip_45]
      simp [S, Str.length]
    · rw [if_neg (by rw [e]; simp [h]), strip_ot r h]
theorem find_dg {c : Nat} (h : dg c = true) : Txt.find (S [48, 49, 50, 51, 52, 53, 54, 55, 56, 57]) (S [c]) = fnd c := by
  have hc : 48 ≤ c ∧ c ≤ 57 := by simpa [dg] using h
  have : c = 48 ∨ c = 49 ∨ c = 50 ∨ c = 51 ∨ c = 52 ∨ c = 53 ∨ c = 54 ∨ c = 55 ∨ c = 56 ∨ c = 57 := by omega
  rcases this with e | e | e | e | e | e | e | e | e | e <;> subst e <;> decide +kernel
/-- the text of a whole number -/
def nz (i : Int) : List Nat := if i < 0 then 45 :: TL.numL i.natAbs else TL.numL i.natAbs
theorem S_nz (i : Int) : Str.ofString (toString i) = S (nz i) := by
  unfold nz
  by_cases h : i < 0
  · rw [if_pos h]
    refine TL.ext_tl ?_
    have e : toString i = "-" ++ toString ((i.natAbs : Nat) : Int) := by
      rw [PyProof.Rows.toString_neg h]
      congr 2
      omega
    rw [e, TL.tl_ofString, String.toList_append, List.map_append]
    have e2 := TL.tl_num i.natAbs
    rw [TL.tl_ofString] at e2
    rw [e2]
    rfl
  · rw [if_neg h]
    have e : i = ((i.natAbs : Nat) : Int) := by omega
    exact (congrArg (fun x : Int => Str.ofString (toString x)) e).trans (num_S i.natAbs)
theorem posW_snoc {l : List Nat} {c : Nat} (h : posW l = true) (hc : dg c = true) : posW (l ++ [c]) = true := by
  cases l with
  | nil => simp [posW] at h
  | cons d r =>
    simp only [posW, Bool.and_eq_true, List.cons_append, List.all_append, List.all_cons, List.all_nil] at *
    exact ⟨h.1, h.2, hc, trivial⟩
theorem numL_posW : ∀ n : Nat, 0 < n → posW (TL.numL n) = true := by
  intro n
  induction n using Nat.strongRecOn with
  | _ n ih =>
    intro h
    by_cases h10 : n < 10
    · rw [TL.numL_lt h10]
      simp [posW, d1]
      omega
    · rw [TL.numL_step (by omega)]
      exact posW_snoc (ih (n / 10) (by omega) (by omega)) (by simp [dg]; omega)
theorem dv_num (n : Nat) : dv (TL.numL n) = n := TL.numL_val n
theorem head_num (n : Nat) : (TL.numL n).head? ≠ some 45 := by
  intro h
  have hm : 45 ∈ TL.numL n := List.mem_of_mem_head? h
  have := TL.numL_digits n 45 hm
  omega
theorem strip_num (n : Nat) : strip (TL.numL n) = TL.numL n := by
  have k := head_num n
  cases h : TL.numL n with
  | nil => rfl
  | cons c r =>
    rw [h] at k
    exact strip_ot r (by simpa using k)
theorem nz_whole (i : Int) : wholeW (nz i) = true := by
  unfold nz
  by_cases h : i < 0
  · rw [if_pos h, whole_45]
    exact numL_posW _ (by omega)
  · rw [if_neg h]
    by_cases h0 : i.natAbs = 0
    · rw [h0]
      decide
    · unfold wholeW
      rw [strip_num, numL_posW _ (by omega), Bool.or_true]
theorem nz_val (i : Int) : vz (nz i) = i := by
  unfold vz nz
  by_cases h : i < 0
  · rw [if_pos h, if_pos (by simp), strip_45, dv_num]
    omega
  · rw [if_neg h, if_neg (head_num _), strip_num, dv_num]
    omega
theorem numL_nz {n : Nat} : nz (n : Int) = TL.numL n := by
  unfold nz
  rw [if_neg (by omega)]
  simp
section
variable {σ : L2.St} {H : Hp} {Q : VK} {to te : TE} {r : V → List V → Hp → VK → Prop}
theorem w_m0 (h : to σ H fun x H1 => (∃ a, x = .str a) ∧ r x [] H1 Q) : tM0 r to σ H Q := h
theorem w_m1 (h : to σ H fun x H1 => (∃ a, x = .str a) ∧ te σ H1 fun y H2 => r x [y] H2 Q) : tM1 r to te σ H Q := h
theorem w_slice {r : V → Option Int → Option Int → Hp → VK → Prop} {te : TE} {tl th : TO} (h : te σ H fun x H1 => tl σ H1 fun l H2 => th σ H2 fun u H3 => r x l u H3 Q) : L2.tSl r te tl th σ H Q := h
theorem w_nopart {R : Option Int → Hp → Prop} (h : R none H) : tNoPart σ H R := h
theorem w_part {t : TE} {R : Option Int → Hp → Prop} (h : t σ H fun x H1 => ∃ i, x = .int i ∧ R (some i) H1) : tPart t σ H R := h
theorem w_cut {l : List Nat} {lo hi : Option Int} (hl : l.length ≤ 100000) (q : Q (.str (cutS (S l) lo hi)) H) : rSlS (.str (S l)) lo hi H Q := ⟨_, rfl, by rw [S_len]; exact Nat.le_trans hl (by decide), q⟩
theorem w_cutTo {l : List Nat} {i : Int} (hl : l.length ≤ 100000) (hi : 0 ≤ i) (q : Q (.str (S (l.take i.toNat))) H) : rSlS (.str (S l)) none (some i) H Q := w_cut hl (by rw [cut_to hi]; exact q)
theorem w_cutFrom {l : List Nat} {i : Int} (hl : l.length ≤ 100000) (hi : 0 ≤ i) (q : Q (.str (S (l.drop i.toNat))) H) : rSlS (.str (S l)) (some i) none H Q := w_cut hl (by rw [cut_from hi]; exact q)
def rAddS : R2 := fun x y H Q => ∃ i j, x = .str i ∧ y = .str j ∧ i.length + j.length ≤ sizeLine ∧ Q (.str (i ++ j)) H
theorem op_addS {X : Cx} : OpR X (binaryOp .Add) rAddS := op_add_str
theorem w_addS {l m : List Nat} (hl : l.length + m.length ≤ 100000) (q : Q (.str (S (l ++ m))) H) : rAddS (.str (S l)) (.str (S m)) H Q := ⟨_, _, rfl, rfl, by rw [S_len, S_len]; exact Nat.le_trans hl (by decide), by rw [S_cat]; exact q⟩
theorem w_ixS {l : List Nat} {k : Int} {c : Nat} (hl : l.length ≤ 100000) (a : atI l k = some c) (q : Q (.str (S [c])) H) : rIxS (.str (S l)) (.int k) H Q := ⟨_, _, c, rfl, rfl, by rw [S_len]; exact Nat.le_trans hl (by decide), a, q⟩
theorem pickN {l : List Nat} {k : Int} (h0 : 0 ≤ k) (h : k < l.length) : ∃ c, atI l k = some c ∧ c ∈ l := by
  obtain ⟨j, rfl⟩ := Int.eq_ofNat_of_zero_le h0
  have hj : j < l.length := by omega
  exact ⟨l[j], atI_nat (j := j) (List.getElem?_eq_getElem hj), List.getElem_mem hj⟩
def rInS : R2 := fun x y H Q => ∃ (c : Nat) (z : Str), x = .str ⟨#[c]⟩ ∧ y = .str z ∧ Q (.bl (decide (c ∈ z.cps.toList))) H
def rNotInS : R2 := fun x y H Q => ∃ (c : Nat) (z : Str), x = .str ⟨#[c]⟩ ∧ y = .str z ∧ Q (.bl (!decide (c ∈ z.cps.toList))) H
theorem op_inS {X : Cx} : OpR X (compareOp .In) rInS := op_in_sign
theorem op_notInS {X : Cx} : OpR X (compareOp .NotIn) rNotInS := op_notIn_sign
theorem w_in1 {c : Nat} {m : List Nat} (q : Q (.bl (decide (c ∈ m))) H) : rInS (.str (S [c])) (.str (S m)) H Q := ⟨c, _, rfl, rfl, q⟩
theorem w_notin1 {c : Nat} {m : List Nat} (q : Q (.bl (!decide (c ∈ m))) H) : rNotInS (.str (S [c])) (.str (S m)) H Q := ⟨c, _, rfl, rfl, q⟩
theorem w_chain {r r' : R2} {ta tb tc : TE} (h : ta σ H fun x H1 => tb σ H1 fun y H2 => r x y H2 fun z H3 => ∃ k, z = .bl k ∧ (if k = true then tc σ H3 fun w' H4 => r' y w' H4 Q else Q (.bl false) H3)) : tChain r r' ta tb tc σ H Q := h
theorem w_rng3 {tl : TA} {R : It → Hp → Prop} (h : tl σ H fun vs H1 => ∃ (i j c : Int) (n : Nat), vs = [.int i, .int j, .int c] ∧ RgC i j c n ∧ R (Itc i c n) H1) : iRng3 tl σ H R := h
def rLenS : List V → Hp → VK → Prop := fun xs H Q => ∃ z : Str, xs = [.str z] ∧ z.length ≤ sizeLine ∧ Q (.int z.length) H
theorem call_lenS {X : Cx} : CallR X (.builtin "len") rLenS := call_len_str
theorem w_lenS {l : List Nat} (hl : l.length ≤ 100000) (q : Q (.int l.length) H) : rLenS [.str (S l)] H Q := ⟨_, rfl, by rw [S_len]; exact Nat.le_trans hl (by decide), by rw [S_len]; exact q⟩
theorem rg0 {n : Nat} (h : n < 64) : RgC (n : Int) (n : Int) 64 0 := by
  have k : ∀ n : Nat, n < 64 → Builtin.Range.small (n : Int) (n : Int) 64 = true := by decide +kernel
  exact ⟨by decide, by decide, k n h, by simp [Builtin.Range.rangeSize]⟩
theorem pe_strS {X : Cx} {z : Str} {l : List Nat} {j : Nat} {pos : Pos} (e : z = S l) : PE X (.Constant (.str z) j pos) (tC (.str (S l))) := by
  subst e
  exact pe_str
end
end MT

namespace MT
open PySem PySem.Spec PyProof.Rows L2
open _root_.SX (S)
section
variable {H : Hp} {Q : VK} {l m : List Nat}
theorem w_rEqS (q : Q (.bl (decide (l = m))) H) : rEq (.str (S l)) (.str (S m)) H Q := ⟨rfl, by
  have e : decide (V.str (S l) = V.str (S m)) = decide (l = m) := by
    by_cases h : l = m
    · rw [decide_eq_true h, decide_eq_true (vS_eq.mpr h)]
    · rw [decide_eq_false h, decide_eq_false (fun k => h (vS_eq.mp k))]
  rw [e]
  exact q⟩
theorem w_rNeS (q : Q (.bl (!decide (l = m))) H) : rNe (.str (S l)) (.str (S m)) H Q := ⟨rfl, by
  have e : decide (V.str (S l) = V.str (S m)) = decide (l = m) := by
    by_cases h : l = m
    · rw [decide_eq_true h, decide_eq_true (vS_eq.mpr h)]
    · rw [decide_eq_false h, decide_eq_false (fun k => h (vS_eq.mp k))]
  rw [e]
  exact q⟩
theorem leafN {a b : Nat} (h : a = b) (hq : Q (.int (a : Nat)) H) : Q (.int (b : Nat)) H := h ▸ hq
end
end MT

namespace NM
open PySem PySem.Spec PyProof.Rows L2 MW CwR
open SX (S S_len S_cat S_inj)
/-! names: text[:1].isalpha() and text.replace('_', 'a').isalnum() -/
section
variable {X : Cx}
/-- behind it a token is out -/
def PEu (X : Cx) (e : Expr) (t : TE) : Prop :=
  ∀ (pins : List (Addr × Obj)) (s : Shared) (σ : L2.St) (H : Hp) (Q : VK), Inv X pins σ H s → t σ H Q → wpAny (model X.prog X.w) X.A (eval e X.env) (fun v s1 => 1 ≤ s1.toks ∧ EP X pins σ Q v s1) X.xe s
variable {e o a b : Expr} {te to ta tb : TE} {rest : List Expr} {pos apos p2 : Pos}
theorem peu_sliceTo {i : Int} {j : Nat} {cp : Pos} {r : V → Option Int → Option Int → Hp → VK → Prop} (hr : SlR X r) (he : PE X e te) :
    PEu X (.Subscript e (.Slice none (some (.Constant (.int i) j cp)) none p2) pos) (L2.tSl r te tNoPart (tPart (tC (.int i)))) := by
  intro pins s σ H Q I h
  refine Subscript_ (thn (he.run pins s σ H _ I h) fun v s1 ⟨x, H1, I1, r1, q1⟩ => ?_)
  refine wpAny_Slice (thn (po_none.run pins s1 σ H1 _ I1 q1) fun vl s2 ⟨l, H2, I2, pl, q2⟩ => ?_)
  rw [evalPart_some]
  refine wpAny_Constant_int ?_
  rw [evalPart_none]
  refine wpAny_pure ?_
  obtain ⟨k, ek, q3⟩ := q2
  cases ek
  have I3 : Inv X pins σ H2 { s2 with toks := s2.toks + 1 } := I2.tok _
  have I4 : Inv X pins σ H2 { s2 with heap := s2.heap.push { cls := .type "slice", data := .fields #[vl, .int i s2.toks, .none] }, toks := s2.toks + 1 } := I2.kept (t' := s2.toks + 1) fun b ob q => Heap.get?_push_of_some _ q
  obtain ⟨T, id, hT, ht, hg⟩ := hr pins { s2 with heap := s2.heap.push { cls := .type "slice", data := .fields #[vl, .int i s2.toks, .none] }, toks := s2.toks + 1 } σ H2 x v vl (.int i s2.toks) l (some i) s2.heap.objs.size Q I4 r1 (Heap.IsSliceOf.new ..) pl (.int i s2.toks) q3
  show wpAny (model X.prog X.w) X.A (subscriptTail e (.Slice none (some (.Constant (.int i) j cp)) none p2) v (.ref s2.heap.objs.size)) _ X.xe { s2 with heap := s2.heap.push { cls := .type "slice", data := .fields #[vl, .int i s2.toks, .none] }, toks := s2.toks + 1 }
  refine wpAny_mono (PySem.wpAny_toks (tail_any (ops := [.ref s2.heap.objs.size, v]) ht hT hg (by with_unfolding_all rfl))) (fun v5 s5 q5 => ⟨?_, q5.2⟩) fun _ _ z => z.2
  have := q5.1
  exact Nat.le_trans (Nat.succ_le_succ (Nat.zero_le _)) this
theorem peu_m0 {id : String} {name : Str} {r : V → List V → Hp → VK → Prop} (slot : Slot "str" name id) (ty : typeOf (.builtin id) = pure (.type "method_descriptor")) (rule : MtR X id r) (ho : PEu X o to)
    (hbase : attributeBase o name X.env (eval o X.env) = eval o X.env := by rfl) (hline : (apos.endLine == pos.line) = true := by rfl) : PEu X (.Call (.Attribute o name apos) [] [] pos) (tM0 r to) := by
  intro pins s σ H Q I h
  refine PySem.Call_method0 hbase hline (wpAny_mono (ho pins s σ H _ I h) (fun v s1 ⟨hk, x, H1, I1, r1, q1⟩ => ?_) fun _ _ z => z)
  obtain ⟨⟨a, rfl⟩, q1⟩ := q1
  obtain ⟨t, rfl⟩ := _root_.id r1
  refine ⟨"str", _, PySem.F.plainAttrs_str, slot, ty, typeIs_str _ _ _, (fun _ e => nomatch e), Calls.callWith_builtin rfl (PySem.evalArgs_none ?_)⟩
  exact wpAny_mono (PySem.wpAny_toks (rule pins s1 σ H1 _ [] _ [] Q I1 r1 .nil q1)) (fun v5 s5 q5 => ⟨Nat.le_trans hk q5.1, q5.2⟩) fun _ _ z => z.2
theorem pet_m0 {id : String} {name : Str} {r : V → List V → Hp → VK → Prop} (slot : Slot "str" name id) (ty : typeOf (.builtin id) = pure (.type "method_descriptor")) (rule : MtR X id r) (ho : PET X o to)
    (hbase : attributeBase o name X.env (eval o X.env) = eval o X.env := by rfl) (hline : (apos.endLine == pos.line) = true := by rfl) : PET X (.Call (.Attribute o name apos) [] [] pos) (tM0 r to) := by
  intro pins s σ H Q h0 I h
  refine PySem.Call_method0 hbase hline (thn (ho pins s σ H _ h0 I h) fun v s1 ⟨x, H1, I1, r1, q1⟩ => ?_)
  obtain ⟨⟨a, rfl⟩, q1⟩ := q1
  obtain ⟨t, rfl⟩ := _root_.id r1
  exact ⟨"str", _, PySem.F.plainAttrs_str, slot, ty, typeIs_str _ _ _, (fun _ e => nomatch e), Calls.callWith_builtin rfl (PySem.evalArgs_none (rule pins s1 σ H1 _ [] _ [] Q I1 r1 .nil q1))⟩
theorem pe_andU (ha : PEu X a ta) (hb : PET X b tb) : PE X (.BoolOp .And [a, b] pos) (tAndV ta tb) := by
  refine ⟨fun pins s σ H Q I h => ?_⟩
  refine BoolOp_and (wpAny_mono (ha pins s σ H _ I h) (fun v s1 ⟨hk, x, H1, I1, r1, q1⟩ => ?_) fun _ _ z => z)
  obtain ⟨c, rfl, q1⟩ := q1
  cases r1
  refine wpAny_truthy_bool ?_
  cases c with
  | true => exact BoolOp_one (hb pins s1 σ H1 Q hk I1 q1)
  | false => exact ⟨.bl false, H1, I1, rfl, q1⟩
end
/-- small and great letters -/
def lt (c : Nat) : Bool := decide (97 ≤ c ∧ c ≤ 122) || decide (65 ≤ c ∧ c ≤ 90)
def fst1 : List Nat → Bool
  | [] => false
  | c :: _ => lt c
def nc (c : Nat) : Bool := lt c || dg c || decide (c = 95)
theorem u_alpha : ∀ c, c < 128 → Unicode.isAlpha c = lt c := by decide +kernel
theorem u_alnum : ∀ c, c < 128 → Unicode.isAlnum c = (lt c || dg c) := by decide +kernel
theorem repl_us (l : List Nat) : StrLaws.replL [95] [97] l = l.map fun c => if c = 95 then 97 else c := by
  induction l with
  | nil => exact StrLaws.replL_nil
  | cons c r ih =>
    by_cases h : c = 95
    · rw [StrLaws.replL_hit (by simp) (by simp [h]), List.map_cons, if_pos h]
      simp [ih]
    · rw [StrLaws.replL_miss (by simpa using h), List.map_cons, if_neg h, ih]
theorem repl_S (l : List Nat) : Txt.replace (S l) (S [95]) (S [97]) = S (l.map fun c => if c = 95 then 97 else c) := by
  have ex : ∀ a b : Str, a.cps = b.cps → a = b := fun ⟨_⟩ ⟨_⟩ h => by cases h; rfl
  refine ex _ _ ?_
  have := StrLaws.replace_list (x := S l) (y := S [95]) (z := S [97]) (by rw [S_len]; exact Nat.le_refl 1)
  refine Array.ext' ?_
  rw [this]
  show StrLaws.replL [95] [97] l = _
  rw [repl_us]
theorem alnum_S (l : List Nat) (h : l.all (· < 128) = true) : Txt.isalnum (S (l.map fun c => if c = 95 then 97 else c)) = (!l.isEmpty && l.all nc) := by
  unfold Txt.isalnum
  rw [S_len]
  have e2 : (S (l.map fun c => if c = 95 then 97 else c)).cps.all Unicode.isAlnum = (l.map fun c => if c = 95 then 97 else c).all Unicode.isAlnum := by simp [S]
  rw [e2, List.all_map]
  have e : l.all (Unicode.isAlnum ∘ fun c => if c = 95 then 97 else c) = l.all nc := by
    clear e2
    induction l with
    | nil => rfl
    | cons c r ih =>
      rw [List.all_cons, Bool.and_eq_true] at h
      rw [List.all_cons, List.all_cons, ih h.2]
      congr 1
      show Unicode.isAlnum (if c = 95 then 97 else c) = nc c
      by_cases hc : c = 95
      · rw [if_pos hc, hc]
        decide +kernel
      · rw [if_neg hc, u_alnum c (of_decide_eq_true h.1)]
        unfold nc
        rw [decide_eq_false hc, Bool.or_false]
  rw [e]
  cases l <;> simp
theorem alpha1_S (l : List Nat) (h : l.all (· < 128) = true) : Txt.isalpha (S (l.take 1)) = fst1 l := by
  unfold Txt.isalpha
  rw [S_len]
  cases l with
  | nil => rfl
  | cons c r =>
    rw [List.all_cons, Bool.and_eq_true] at h
    have e2 : (S ((c :: r).take 1)).cps.all Unicode.isAlpha = Unicode.isAlpha c := by simp [S]
    rw [e2, u_alpha c (of_decide_eq_true h.1)]
    simp [fst1]
end NM

namespace L2
open PySem PySem.Spec PyProof.Rows
/-- a def whose code object stands at c -/
structure FunT (K : PySem.W.Frag) (x qual : Str) (st : Stmt) (f : Addr) (fd : FuncData) (c : Addr) : Prop where
  ex : ∃ (oc : Value) (od : Option Addr) (kV doc pm : Value) (an : Option Addr) (ct : Value) (osl : Array (Option Value)),
    fd = PySem.W.fnOf x qual (defArgs st) (defBody st) (defScope st) .none kV doc pm an (.ref c) ct ∧ K.lookup f = some ⟨oc, od, .func fd, osl⟩ ∧ PySem.W.codeIn K (.ref c) qual = true
theorem FunT.okN {P : Program} {w : World} {K : PySem.W.Frag} {mg : Str → Option Value} {base : Heap} {x qual : Str} {st : Stmt} {f : Addr} {fd : FuncData} {N ps : List Str} {k : Nat} {sp : Sp} {c : Addr} (F : FunT K x qual st f fd c) (S : FnScope N ps (defScope st)) (len : ∀ vs H Q E, sp vs H Q E → vs.length = ps.length)
    (b : ∀ (A : Around) (outer : List Env) (s : Shared) (H : Hp) (vs : List V) (Q : VK) (E : XK), Room k (A.deeper (envOfC qual (defScope st) s.heap.objs.size f (.ref c))) → sp vs H Q E → ∃ t, PSs (cxOf (L2N.CX P w) P w K mg base N qual (defScope st) f (.ref c) A outer s H E) (defBody st) t ∧ t { nx := fun _ H' => Q .non H', rt := Q } (start N vs) H) :
    FnOk P w K mg base (L2N.CX P w) (k + 1) f fd ps sp := by
  obtain ⟨_, _, _, _, _, _, _, _, rfl, place, code⟩ := F.ex
  exact fn_of place code S len fun A outer s H vs Q E room want => b A outer s H vs Q E room want
theorem FunT.ok {P : Program} {w : World} {K : PySem.W.Frag} {mg : Str → Option Value} {base : Heap} {x qual : Str} {st : Stmt} {f : Addr} {fd : FuncData} {N ps : List Str} {k : Nat} {sp : Sp} {c : Addr} (F : FunT K x qual st f fd c) (S : FnScope N ps (defScope st)) (len : ∀ vs H Q E, sp vs H Q E → vs.length = ps.length)
    (b : ∀ (A : Around) (outer : List Env) (s : Shared) (H : Hp) (vs : List V) (Q : VK) (E : XK), Room k (A.deeper (envOfC qual (defScope st) s.heap.objs.size f (.ref c))) → sp vs H Q E → ∃ t, PSs (cxOf CX0 P w K mg base N qual (defScope st) f (.ref c) A outer s H E).nox (defBody st) t ∧ t { nx := fun _ H' => Q .non H', rt := Q } (start N vs) H) :
    FnOk P w K mg base CX0 (k + 1) f fd ps sp := by
  obtain ⟨_, _, _, _, _, _, _, _, rfl, place, code⟩ := F.ex
  refine fn_of place code S len fun A outer s H vs Q E room want => ?_
  obtain ⟨t, h, q⟩ := b A outer s H vs Q E room want
  exact ⟨t, h.nox, q⟩
end L2

namespace GAL
open PySem PySem.Spec PyProof.Rows L2
/-! all(x == y for x in a list of texts), y a name that the generator captures -/
section
variable {X : Cx} {pins : List (Addr × Obj)} {σ : L2.St} {H : Hp} {s : Shared} {c P : Addr}
/-- only the def's table has grown -/
structure Grown (P : Addr) (ps : Array Value) (h h3 : Heap) : Prop where
  ext : Heap.ExtBut P h h3
  sz : h.objs.size ≤ h3.objs.size
  tab : ∃ more, h3.get? P = some { cls := .none, data := .fields (ps ++ more) } ∧ TriplesOk (ps ++ more).toList
theorem code_grown {h : Heap} {gpos : Pos} {scope : Scope} {qual : Str} {ps : Array Value} {q : Value → Shared → Prop} (hcode : X.env.code = .ref c) (cd : PySem.W.CodeHd h c P) (hP : h.get? P = some { cls := .none, data := .fields ps }) (ht : TriplesOk ps.toList)
    (k : ∀ code h3 tk, Grown P ps h h3 → q code { s with heap := h3, toks := tk }) : wpAny (model X.prog X.w) X.A (genexprCode X.env gpos qual scope) q X.xe { s with heap := h } := by
  cases hf : codeAmong gpos ps.toList with
  | some cv =>
    refine wpAny_genexprCode_hit hcode (cd.code hP ht) hf ?_
    exact k cv h s.toks ⟨Heap.ExtBut.refl _ _, Nat.le_refl _, #[], by simpa using hP, by simpa using ht⟩
  | none =>
    refine wpAny_genexprCodeX hcode (cd.code hP ht) (cd.tab hP) hf fun c' h' tk hx hge hlt hco _ htab _ => ?_
    obtain ⟨o1, vs, f1, tf, fl, tg, inF, tx, tt, op, _, _, _, _, _, _, _, _, _, htr, _⟩ := hco
    exact k _ h' tk ⟨hx, Nat.le_trans hge (Nat.le_of_lt hlt), _, htab.2, htr⟩
/-- what was held before is held again behind the walk -/
theorem back {ps : Array Value} {o : Obj} {h3 h5 : Heap} {tk : Nat} {gs : GenState} {wr : List Addr} {n : Nat} {s' : Shared} (I : Inv X pins σ H s) (hH : H P = some (.tbl ps)) (g : Grown P ps (s.heap.push o) h3) (hgb : gs.bare = true)
    (hk5 : ∀ b o, h3.get? b = some o → h5.get? b = some o) (hwr : ∀ b ∈ wr, s.heap.objs.size ≤ b) (hm : Moved wr (GenOnlyQ n) { s with gens := s.gens.push gs, toks := tk, heap := h5 } s') : ∃ H2, GxR.Tabbed P H H2 ∧ Inv X pins σ H2 s' := by
  obtain ⟨more, e1, e2⟩ := g.tab
  have old : ∀ b u, s.heap.get? b = some u → b ∉ wr := fun b u e hb => Nat.lt_irrefl _ (Nat.lt_of_lt_of_le (Heap.lt_size e) (hwr b hb))
  have hP := I.hok P _ hH
  have J := GxR.inv_tab (more := more) (h' := s'.heap) (g' := s'.gens) (d' := s'.drawn) (t' := s'.toks) I hH (fun b u hb e => hm.heap b u (old b u e) (hk5 b u (g.ext b u hb (Heap.get?_push_of_some _ e)))) (hm.heap P _ (old P _ hP) (hk5 P _ e1)) (AllBare.movedS (I.bare.push hgb) hm)
  rw [GxR.sh_eta s s' hm.os] at J
  exact ⟨_, ⟨⟨_, upd_same, e2⟩, fun b hb => upd_ne hb⟩, J⟩
def eqF (ls : List Str) (z : Str) (j : Nat) : Bool := match ls[j]? with
  | some a => decide (a = z)
  | none => false
theorem eqF_all (ls : List Str) (z : Str) : (List.range ls.length).all (eqF ls z) = ls.all fun a => decide (a = z) := by
  rw [Bool.eq_iff_iff, List.all_eq_true, List.all_eq_true]
  constructor
  · intro h a ha
    obtain ⟨j, hj, e⟩ := List.getElem_of_mem ha
    have q := h j (List.mem_range.mpr hj)
    unfold eqF at q
    rw [List.getElem?_eq_getElem hj, e] at q
    exact q
  · intro h j hj
    have hj' := List.mem_range.mp hj
    unfold eqF
    rw [List.getElem?_eq_getElem hj']
    exact h _ (List.getElem_mem hj')
/-- the generator stands ready -/
def Ready (X : Cx) (pins : List (Addr × Obj)) (σ : L2.St) (H1 : Hp) (P : Addr) (ls : List Str) (z : Str) (g : Addr) (s5 : Shared) : Prop :=
  ∃ (fp wr : List Addr) (G : Array GenState → Array GenState → Prop) (F : Nat → Value → Prop) (St : Nat → Shared → Prop),
    WalksS X.prog X.w X.A.in1 g fp wr G ls.length F St ∧ St 0 s5 ∧ TruthOf X.prog X.w X.A.in1 F (eqF ls z) ∧ ∀ s', Moved wr G s5 s' → ∃ H2, GxR.Tabbed P H1 H2 ∧ Inv X pins σ H2 s'
/-- the generator's own names: x, the walked thing, and y that the def has as a cell -/
structure GenC (scope : Scope) (x y : Str) : Prop where
  kind : scope.kind = .function
  co : scope.isCoroutine = false
  cell : ∀ n ∈ scope.names, n.2 ≠ .cell
  dot : scope.names.lookup (".0" : Str) = some NameKind.local
  loc : scope.names.lookup x = some .local
  only : ∀ n ∈ scope.names, n.2 = .free → n.1 = y
  mem : (y, NameKind.free) ∈ scope.names
  free : scope.names.lookup y = some .free
  dx : (x == ("__debug__" : Str)) = false
  dy : (y == ("__debug__" : Str)) = false
  cy : (y == ("__classdict__" : Str)) = false
def genB (scope : Scope) (x y : Str) : Bool := decide (scope.kind = .function) && !scope.isCoroutine && scope.names.all (fun n => decide (n.2 ≠ .cell)) && decide (scope.names.lookup (".0" : Str) = some NameKind.local) && decide (scope.names.lookup x = some .local) &&
  scope.names.all (fun n => !decide (n.2 = .free) || decide (n.1 = y)) && decide ((y, NameKind.free) ∈ scope.names) && decide (scope.names.lookup y = some .free) && !(x == ("__debug__" : Str)) && !(y == ("__debug__" : Str)) && !(y == ("__classdict__" : Str))
theorem genC_by {scope : Scope} {x y : Str} (h : genB scope x y = true) : GenC scope x y := by
  unfold genB at h
  simp only [Bool.and_eq_true, decide_eq_true_eq, Bool.not_eq_true', List.all_eq_true, Bool.or_eq_true] at h
  obtain ⟨⟨⟨⟨⟨⟨⟨⟨⟨⟨h1, h2⟩, h3⟩, h4⟩, h5⟩, h6⟩, h7⟩, h8⟩, h9⟩, h10⟩, h11⟩ := h
  refine ⟨h1, h2, h3, h4, h5, fun n hn e => ?_, h7, h8, h9, h10, h11⟩
  rcases h6 n hn with q | q
  · rw [decide_eq_false_iff_not] at q
    exact absurd e q
  · exact q
theorem gen_eq {iter : Expr} {x y : Str} {px p1 p2 p3 gpos : Pos} {scope : Scope} {te : TE} {k i : Nat} {Q' : Value → Shared → Prop} {R : List Str → Hp → Prop}
    (hr : Room k X.A) (TB : GxR.TabB X.base X.mg c P) (hcode : X.env.code = .ref c) (S : GenC scope x y) (hi : PE X iter te) (hN : X.N[i]? = some y) (hy : X.env.scope.names.lookup y = some .cell)
    (hs : ∀ v, genFold iter X.env v = pure v) {z : Str} (hz : σ[i]? = some (some (.str z))) (I : Inv X pins σ H s) (h : te σ H fun v H1 => ∃ (yl : Addr) (ls : List Str), v = .ref yl ∧ SqL X.K H1 yl (ls.map V.str) ∧ GxR.TabG H1 P ∧ R ls H1)
    (hQ : ∀ ls H1 g s5, R ls H1 → Ready X pins σ H1 P ls z g s5 → Q' (.ref g) s5) :
    wpAny (model X.prog X.w) X.A (eval (.GeneratorExp (.Compare (.Name x p1) [.Eq] [.Name y p2] p3) [⟨.Name x px, iter, [], 0⟩] scope gpos) X.env) Q' X.xe s := by
  have cellAt : ∀ {H' : Hp} {s' : Shared}, Inv X pins σ H' s' → ∃ cy tz, X.env.cells.lookup y = some cy ∧ s'.heap.IsCell cy (some (.str z tz)) := fun {H' s'} I' => by
    obtain ⟨m1, _, look⟩ := I'.loc
    obtain ⟨u, ⟨tz, rfl⟩, hlook⟩ := look i y (.str z) hN hz (.inr (.inl hy))
    rcases hlook with ⟨q, _⟩ | ⟨_, cy, q1, q2⟩
    · exact absurd (q.symm.trans hy) (by simp)
    · exact ⟨cy, tz, q1, q2⟩
  have free : ∀ n ∈ scope.names, n.2 = .free → ∃ c, X.env.cells.lookup n.1 = some c := fun n hn e => by
    obtain ⟨cy, _, q, _⟩ := cellAt I
    exact ⟨cy, by rw [S.only n hn e]; exact q⟩
  refine wpAny_GeneratorExp_walksQ hr.hd S.co (closure_ok free) S.cell S.dot S.loc S.kind (by have := hr.dp; omega) ?_ hs
  refine thn (hi.run pins s σ H _ I h) fun xv s1 ⟨v, H1, I1, r1, q1⟩ => ?_
  obtain ⟨yl, ls, rfl, hyl1, ⟨ps, hP, ht⟩, q1⟩ := q1
  obtain rfl : xv = Value.ref yl := r1
  obtain ⟨its, rv, hl, hsz⟩ := I1.list hyl1
  have hIL := hl.isList
  have hlen : its.length = ls.length := by rw [← rv.length, List.length_map]
  have item : ∀ (j : Nat) (v : Value), its.toArray[j]? = some v → ∃ (a : Str) (u : Tok), ls[j]? = some a ∧ v = .str a u := fun j v hv => by
    have hv2 : its[j]? = some v := by simpa using hv
    have hj : j < ls.length := by rw [← hlen]; exact (List.getElem?_eq_some_iff.mp hv2).1
    have ea : ls[j]? = some ls[j] := List.getElem?_eq_getElem hj
    obtain ⟨u, hu, ru⟩ := rv.get (show (ls.map V.str)[j]? = some (V.str ls[j]) by rw [List.getElem?_map, ea]; rfl)
    rw [hv2] at hu
    cases hu
    obtain ⟨t, e⟩ := (show ∃ t, v = Value.str ls[j] t from ru)
    exact ⟨_, t, ea, e⟩
  -- the captured name's cell
  obtain ⟨cy, tz, hcy1, hcy2⟩ := cellAt I1
  have ncP : cy ≠ P := fun e => by
    have := I1.freeC y cy hcy1
    rw [e, hP] at this
    cases this
  have hcl := NdefX.clo_has free S.mem hcy1
  refine wpAny_pyIter_list hIL ?_
  generalize ho : ({ cls := .type "list_iterator", data := .fields #[.ref yl, .int 0 0] } : Obj) = o
  have hit : (s1.heap.push o).IsListIter s1.heap.objs.size yl 0 := by
    subst ho
    exact ⟨_, Heap.get?_push_size _ rfl, rfl, rfl⟩
  have ylt : yl < s1.heap.objs.size := by
    obtain ⟨_, e, _⟩ := _root_.id hIL
    exact Heap.lt_size e
  have hPs := I1.hok P _ hP
  have hPlt := Heap.lt_size hPs
  have lim2 : (s1.heap.push o).NoLimit := I1.nolimit.push o
  refine ⟨lim2, code_grown hcode (TB.code.keeps fun b u e => Heap.get?_push_of_some _ (I1.bk b u e)) (Heap.get?_push_of_some _ hPs) ht fun code h3 tk gr => ?_⟩
  have keep3 : ∀ b u, b ≠ P → s1.heap.get? b = some u → h3.get? b = some u := fun b u hb e => gr.ext b u hb (Heap.get?_push_of_some _ e)
  have size2 : (s1.heap.push o).objs.size = s1.heap.objs.size + 1 := Heap.size_push ..
  have lt3 : s1.heap.objs.size < h3.objs.size := by
    have q := gr.sz
    rw [size2] at q
    exact q
  obtain ⟨bm, ob, e1, e2, e3, e4, e5, e6, e7, e8⟩ := TB.bm
  refine wpAny_builtinsFor (m := X.mg) (by rw [I1.ok.glob]; exact ((I1.mod.glob.keeps I1.bk).push o).extBut gr.ext TB.gP) e1 e2 (keep3 _ _ e4 (I1.bk _ _ e5)) e6 e7 e8 ?_
  obtain ⟨ls1, hn1, ls2⟩ := _root_.id I1.nolimit
  have nst : cStatics ≠ P := fun e => by
    obtain ⟨o', es, ep, ho', hd', _⟩ := hn1
    rw [e, hPs] at ho'
    cases ho'
    cases hd'
  have ylP : yl ≠ P := fun e => by
    obtain ⟨_, e9, _, _, hd9⟩ := _root_.id hIL
    rw [e, hPs] at e9
    cases e9
    cases hd9
  have hIL3 : h3.IsList yl its.toArray := by
    obtain ⟨ol, e9, r9⟩ := _root_.id hIL
    exact ⟨ol, keep3 _ _ ylP e9, r9⟩
  refine ⟨s1.heap.objs.size, [s1.heap.objs.size, yl], [s1.heap.objs.size], its.toArray.size, (fun j v => its.toArray[j]? = some v), (fun j h => h.IsListIter s1.heap.objs.size yl j ∧ h.IsList yl its.toArray), (fun _ => true),
    (fun j v => ∃ a : Str, ls[j]? = some a ∧ v = .bool (decide (a = z))), rfl, (fun A' hA => Walks.list hA _ _ (Nat.ne_of_lt ylt) _), ⟨hit.at fun u e => gr.ext _ u (Nat.ne_of_gt hPlt) e, hIL3⟩, fun b hb => ?_, lim2.extBut gr.ext nst, fun hb => ?_, fun href hh => ?_, fun g h5 tk5 gs hgb hag hsz5 hk5 W5 hat => ?_⟩
  · have hb' : b = s1.heap.objs.size ∨ b = yl := by simpa using hb
    show b < h3.objs.size
    rcases hb' with e | e
    · rw [e]; exact lt3
    · rw [e]; exact Nat.lt_trans ylt lt3
  · have := hn1.lt
    have hb' : cStatics = s1.heap.objs.size := by simpa using hb
    exact Nat.ne_of_lt this hb'
  · refine ⟨fun A' E' j v s₂ m₂ hA hPv hn hm hk => ?_, fun A' E' j v s₂ m₂ hA hPv hp hn hm hk => ?_⟩
    · rw [List.forIn_nil]
      exact wpAny_pure ⟨rfl, GxR.keeps_refl _⟩
    · obtain ⟨a, u, ha, rfl⟩ := item j v hPv
      have cyl : cy < s1.heap.objs.size := hcy2.lt
      have cell2 : s₂.heap.IsCell cy (some (.str z tz)) := by
        obtain ⟨oc, g1, g2⟩ := hcy2
        refine ⟨oc, hk cy (List.mem_range.mpr (Nat.lt_trans cyl lt3)) (fun hb => ?_) oc (hh cy oc (keep3 cy oc ncP g1)), g2⟩
        have hb' : cy = s1.heap.objs.size := by simpa using hb
        exact Nat.ne_of_lt cyl hb'
      refine wpAny_Compare1 ?_
      refine wpAny_Name (wpAny_loadName_local S.kind S.loc hn hm ?_) S.dx
      refine wpAny_Name (wpAny_loadName_free S.kind S.free hcl cell2 ?_ S.cy) S.dy
      refine PyProof.Rows.eq_str ⟨⟨a, ha, ?_⟩, GxR.keeps_refl _⟩
      have e : (a == z) = decide (a = z) := by
        by_cases q : a = z
        · rw [q, decide_eq_true rfl, beq_self_eq_true]
        · rw [decide_eq_false q, beq_eq_false_iff_ne.mpr q]
      rw [e]
  · simp only [GxR.passing_true, List.length_range] at W5
    have hn5 : its.toArray.size = ls.length := by rw [List.size_toArray, hlen]
    rw [hn5] at W5 hat
    refine hQ ls H1 g _ q1 ⟨_, _, _, _, _, W5.in4_1, hat, fun j v sj Qj Ej hv hq => ?_, fun s' hm => back I1 hP gr hgb hk5 (fun b hb => ?_) hm⟩
    · obtain ⟨i', hij, a, ha, rfl⟩ := hv
      obtain ⟨hj, ej⟩ := List.getElem?_eq_some_iff.mp hij
      rw [List.getElem_range] at ej
      subst ej
      unfold eqF at hq
      rw [ha] at hq
      exact wpAny_truthy_bool hq
    · rcases List.mem_cons.mp hb with e | hb
      · rw [e]; exact Nat.le_of_lt lt3
      · rw [List.mem_singleton.mp hb]; exact Nat.le_refl _
/-- all(x == y for x in e), e a list of texts; y stands in slot i; behind it the def's table may have grown -/
def tAllE (K : PySem.W.Frag) (P : Addr) (i : Nat) (te : TE) : TE := fun σ H Q => ∃ z : Str, σ[i]? = some (some (.str z)) ∧ te σ H fun v H1 => ∃ (yl : Addr) (ls : List Str), v = .ref yl ∧ SqL K H1 yl (ls.map V.str) ∧ GxR.TabG H1 P ∧ ∀ H2, GxR.Tabbed P H1 H2 → Q (.bl (ls.all fun a => decide (a = z))) H2
theorem pe_allE {iter : Expr} {x y : Str} {px p1 p2 p3 p pos gpos : Pos} {scope : Scope} {te : TE} {k i : Nat}
    (hr : Room k X.A) (hg : Gl X "all") (hm : X.mg "all" = none) (hb : bootBuiltins "all" = some (.builtin "all")) (TB : GxR.TabB X.base X.mg c P) (hcode : X.env.code = .ref c) (S : GenC scope x y) (hi : PE X iter te) (hN : X.N[i]? = some y) (hy : X.env.scope.names.lookup y = some .cell)
    (hs : ∀ v, genFold iter X.env v = pure v)
    (he : starEach [.GeneratorExp (.Compare (.Name x p1) [.Eq] [.Name y p2] p3) [⟨.Name x px, iter, [], 0⟩] scope gpos] X.env = (false, eval (.GeneratorExp (.Compare (.Name x p1) [.Eq] [.Name y p2] p3) [⟨.Name x px, iter, [], 0⟩] scope gpos) X.env) :: starEach [] X.env := by rfl) :
    PE X (.Call (.Name "all" p) [.GeneratorExp (.Compare (.Name x p1) [.Eq] [.Name y p2] p3) [⟨.Name x px, iter, [], 0⟩] scope gpos] [] pos) (tAllE X.K P i te) := by
  refine ⟨fun pins s σ H Q I h => ?_⟩
  obtain ⟨z, hz, h⟩ := h
  refine wpAny_Call_Name_kw (ld_blt I hg hm hb (PyProof.Rows.callWith_builtin1 ?_ he (by rfl)))
  rw [he]
  refine Calls.spliced_cons (gen_eq (R := fun ls H1 => ∀ H2, GxR.Tabbed P H1 H2 → Q (.bl (ls.all fun a => decide (a = z))) H2) hr TB hcode S hi hN hy hs hz I h fun ls H1 g s5 hR hG => Calls.spliced_nil ?_)
  obtain ⟨fp, wr, G, F, St, W, hst, htr, back⟩ := hG
  refine call_all_walkS (W.self 0 _ _ _ hst ⟨g, fp, wr, G, _, F, St, _, rfl, W, hst, htr, fun s' hm => ?_⟩)
  obtain ⟨H2, hT, J⟩ := back s' hm
  rw [eqF_all]
  exact ⟨.bl _, H2, J, rfl, hR H2 hT⟩
end
end GAL

namespace RVT
open PySem PySem.Spec PyProof.Rows L2 HT
section
variable {prog : Program} {w : World} {A : Around} {E : Value → Shared → Prop} {s : Shared}
theorem adjust_rev (n : Nat) : Builtin.Slice.sliceAdjust none none (-1) (n : Int) = ((n : Int) - 1, -1) := by
  have h1 : ((-1 : Int) < 0) := by omega
  unfold Builtin.Slice.sliceAdjust
  simp only [h1, if_true]
theorem places_rev (n : Nat) : Builtin.Slice.slicePlaces ((n : Int) - 1) (-1) (-1) = n := by
  unfold Builtin.Slice.slicePlaces
  have h1 : ¬ ((-1 : Int) > 0) := by omega
  have h2 : -(-1 : Int) = 1 := rfl
  simp only [h1, if_false, h2, Int.ediv_one]
  split <;> omega
theorem sliceApplied_rev {sl : Addr} {vs : Value} {n : Nat} {Q : Int × Int × Nat → Shared → Prop} (hs : s.heap.IsSliceOf sl .none .none vs) (ps : IsPart vs (some (-1)))
    (h : Q ((n : Int) - 1, -1, n) s) : wpAny (model prog w) A (Builtin.Slice.sliceApplied (.ref sl) (pure (n : Int))) Q E s := by
  obtain ⟨os, hos, hcs, hds⟩ := id hs
  unfold Builtin.Slice.sliceApplied Builtin.Slice.sliceFields
  refine wpAny_bind (wpAny_bind (wpAny_field hos hds (x := .none) rfl (wpAny_bind (wpAny_field hos hds (x := .none) rfl (wpAny_bind (wpAny_field hos hds (x := vs) rfl (wpAny_pure ?_)))))))
  refine wpAny_bind (slicePart_ ps ?_)
  show wpAny _ _ (if ((-1 : Int) == 0) = true then _ else _) _ _ s
  rw [if_neg (by decide)]
  refine wpAny_bind (slicePart_none (wpAny_bind (slicePart_none (wpAny_bind (wpAny_pure ?_)))))
  show wpAny _ _ (match Builtin.Slice.sliceAdjust none none (-1) (n : Int) with | (lo, hi) => pure (lo, (-1 : Int), Builtin.Slice.slicePlaces lo hi (-1))) _ _ s
  rw [adjust_rev n]
  show wpAny _ _ (pure ((n : Int) - 1, (-1 : Int), Builtin.Slice.slicePlaces ((n : Int) - 1) (-1) (-1))) _ _ s
  rw [places_rev]
  exact wpAny_pure h
theorem pick_rev (xs : Array Value) : ((List.range xs.size).filterMap fun (m : Nat) => xs[((xs.size : Int) - 1 + (m : Int) * (-1)).toNat]?).toArray = xs.toList.reverse.toArray := by
  congr 1
  refine List.ext_getElem? fun i => ?_
  have e : ∀ m ∈ List.range xs.size, (fun (m : Nat) => xs[((xs.size : Int) - 1 + (m : Int) * (-1)).toNat]?) m = some ((fun m : Nat => xs.toList.reverse[m]?.getD .none) m) := by
    intro m hm
    have hm := List.mem_range.mp hm
    have h1 : ((xs.size : Int) - 1 + (m : Int) * (-1)).toNat = xs.size - 1 - m := by omega
    show xs[((xs.size : Int) - 1 + (m : Int) * (-1)).toNat]? = _
    have h2 : xs.size - 1 - m < xs.size := by omega
    rw [h1]
    show _ = some (xs.toList.reverse[m]?.getD .none)
    rw [List.getElem?_reverse (by rw [Array.length_toList]; exact hm), Array.length_toList, Array.getElem?_toList, Array.getElem?_eq_getElem h2]
    rfl
  have fm : ∀ (l : List Nat) (f : Nat → Option Value) (g : Nat → Value), (∀ m ∈ l, f m = some (g m)) → l.filterMap f = l.map g := by
    intro l f g
    induction l with
    | nil => intro _; rfl
    | cons a l ih =>
      intro h
      rw [List.filterMap_cons, h a List.mem_cons_self, List.map_cons]
      show g a :: List.filterMap f l = _
      rw [ih fun m hm => h m (List.mem_cons_of_mem _ hm)]
  rw [fm _ _ _ e, List.getElem?_map]
  by_cases hi : i < xs.size
  · rw [List.getElem?_range hi]
    have hl : i < xs.toList.reverse.length := by rw [List.length_reverse, Array.length_toList]; exact hi
    show some (xs.toList.reverse[i]?.getD .none) = _
    rw [List.getElem?_eq_getElem hl]
    rfl
  · rw [List.getElem?_eq_none (by rw [List.length_range]; omega), List.getElem?_eq_none (by rw [List.length_reverse, Array.length_toList]; omega)]
    rfl
theorem getItem_tuple_rev {t sl : Addr} {items : Array Value} {vs : Value} {Q : Value → Shared → Prop} (ht : IsTup s.heap t items) (hs : s.heap.IsSliceOf sl .none .none vs) (ps : IsPart vs (some (-1)))
    (h : Q (.ref s.heap.objs.size) { s with heap := s.heap.push { cls := .type "tuple", data := .seq items.toList.reverse.toArray } })
    (hsz : items.size ≤ sizeLine) : wpAny (model prog w) A (getItem (.ref t) (.ref sl)) Q E s := by
  have htake : sizeOk (.seq items.toList.reverse.toArray) := by
    show items.toList.reverse.toArray.size ≤ sizeLine
    rw [List.size_toArray, List.length_reverse, Array.length_toList]
    omega
  obtain ⟨os, hos, hcs, hds⟩ := id hs
  have hTs : s.TypeIs (.ref sl) "slice" := ⟨os, hos, hcs⟩
  unfold getItem
  try with_reducible refine wpAny_holding ?_
  first | refine wpAny_bind (wpAny_pure ?_) | skip
  refine wpAny_bind (wpAny_sequenceKey ht.typeIs (by decide) ?_)
  refine wpAny_bind (wpAny_callSpecial?_slot (name := Str.ofString "__getitem__") ht.typeIs PyProof.Rows.slot_tuple_getitem
    (wpAny_call_entry PyProof.Rows.slot_tuple_getitem ht.typeIs entry_tuple_getitem ?_ (args_tuple_getitem _ _)))
  show wpAny _ _ (Builtin.Tuple.tupleItemsOf (.ref t) >>= _) _ _ s
  refine wpAny_bind (tupleItemsOf_ ht ?_)
  refine wpAny_bind (wpAny_typeOf hTs ?_)
  rw [if_pos (by decide)]
  refine wpAny_bind (sliceApplied_rev hs ps ?_)
  have hno : ¬ ((((items.size : Int) - 1) == 0 && (-1 : Int) == 1 && items.size == items.size) = true) := by
    intro q
    rw [Bool.and_eq_true, Bool.and_eq_true] at q
    exact absurd q.1.2 (by decide)
  show wpAny _ _ (if (((items.size : Int) - 1) == 0 && (-1 : Int) == 1 && items.size == items.size) = true then _ else _) _ _ s
  rw [if_neg hno, pick_rev]
  first
    | exact wpAny_bind (m := Builtin.Tuple.tupleExact _) (wpAny_newObj_type (wpAny_pure ⟨_, rfl, wpAny_pure h⟩) htake)
    | exact wpAny_bind (m := Builtin.Tuple.tupleExact _) (wpAny_newObj_type (wpAny_bind (wpAny_pure (wpAny_pure ⟨_, rfl, wpAny_pure h⟩))) htake)
    | exact wpAny_bind (wpAny_bind (m := Builtin.Tuple.tupleExact _) (wpAny_newObj_type (wpAny_pure (wpAny_pure ⟨_, rfl, wpAny_pure h⟩)) htake))
    | exact wpAny_bind (wpAny_bind (m := Builtin.Tuple.tupleExact _) (wpAny_newObj_type (wpAny_pure ⟨_, rfl, wpAny_pure h⟩) htake))
end
section
variable {X : Cx}
/-- t[::-1] of a tuple -/
def tRevT (K : PySem.W.Frag) (te : TE) : TE := fun σ H Q => te σ H fun x H1 => ∃ a xs, x = .ref a ∧ SqT K H1 a xs ∧ ∀ p, H1 p = none → Q (.ref p) (upd H1 p (.tup xs.reverse))
theorem pe_revT {e : Expr} {te : TE} {k : Nat} {p1 p2 p3 pos : Pos} (he : PE X e te) : PE X (.Subscript e (.Slice none none (some (.UnaryOp .USub (.Constant (.int 1) k p1) p2)) p3) pos) (tRevT X.K te) := by
  refine ⟨fun pins s σ H Q I h => ?_⟩
  refine Subscript_ (thn (he.run pins s σ H _ I h) fun v s1 ⟨x, H1, I1, r1, q1⟩ => ?_)
  obtain ⟨a, xs, ex, hx, q⟩ := q1
  subst ex
  cases r1
  have hst : PO X (some (.UnaryOp .USub (.Constant (.int 1) k p1) p2)) (tPart (tUn (rU fun i => .int (-i)) (tC (.int 1)))) := po_some (pe_un un_neg pe_int)
  refine wpAny_Slice (thn (po_none.run pins s1 σ H1 (fun o H2 => o = none ∧ H2 = H1) I1 ⟨rfl, rfl⟩) fun vl s2 ⟨l, H2, I2, pl, el, e2⟩ => ?_)
  subst el e2
  refine thn (po_none.run pins s2 σ H2 (fun o H3 => o = none ∧ H3 = H2) I2 ⟨rfl, rfl⟩) fun vu s3 ⟨u, H3, I3, pu, eu, e3⟩ => ?_
  subst eu e3
  refine thn (hst.run pins s3 σ H3 (fun o H4 => o = some (-1) ∧ H4 = H3) I3 ⟨1, rfl, -1, rfl, rfl, rfl⟩) fun vs s4 ⟨o, H4, I4, ps, eo, e4⟩ => ?_
  subst eo e4
  cases pl
  cases pu
  have I5 : Inv X pins σ H4 { s4 with heap := s4.heap.push { cls := .type "slice", data := .fields #[.none, .none, vs] } } := I4.kept (t' := s4.toks) fun b ob q => Heap.get?_push_of_some _ q
  obtain ⟨its, r, ht, hz⟩ := I5.tuple hx
  have hlen := r.length
  show wpAny (model X.prog X.w) X.A (subscriptTail e (.Slice none none (some (.UnaryOp .USub (.Constant (.int 1) k p1) p2)) p3) (.ref a) (.ref s4.heap.objs.size)) (EP X pins σ Q) X.xe { s4 with heap := s4.heap.push { cls := .type "slice", data := .fields #[.none, .none, vs] } }
  refine tail_any (ops := [.ref a, .ref s4.heap.objs.size]) ht.typeIs (PyProof.Rows.slot_tuple_getitem.lookup) ?_ (by with_unfolding_all rfl)
  refine getItem_tuple_rev ht (Heap.IsSliceOf.new _ .none .none vs) ps ?_ (by rw [List.size_toArray]; omega)
  refine ⟨.ref _, _, I5.laid (t' := s4.toks) (o := .tup xs.reverse) (fun b ob q => Heap.get?_push_of_some _ q) (Nat.le_refl _) ?_, rfl, q _ (I5.hok.fresh (Nat.le_refl _))⟩
  exact ⟨by rw [List.length_reverse]; exact hz, _, r.reverse, IsTup.new _ _⟩
end
end RVT

namespace PIO
open PySem PySem.Spec PyProof.Rows L2
/-- walked in one way or in another -/
def iOr (a b : TI) : TI := fun σ H R => a σ H R ∨ b σ H R
theorem pi_or {X : Cx} {tg e : Expr} {a b : TI} (ha : PI X tg e a) (hb : PI X tg e b) : PI X tg e (iOr a b) := ⟨fun pins s σ H R I h => h.elim (ha.run pins s σ H R I) (hb.run pins s σ H R I)⟩
end PIO

local macro_rules | `(tactic| walk_at "len") => `(tactic| first
  | omega
  | (simp only [List.length_append, List.length_cons, List.length_nil, List.length_take, List.length_drop, List.length_map]; omega)
  | decide)
local macro_rules | `(tactic| walk_at "w1") => `(tactic| first
  | with_reducible refine MT.w_m0 ?_
  | with_reducible refine MT.w_m1 ?_
  | with_reducible refine MT.w_slice ?_
  | with_reducible refine MT.w_nopart ?_
  | with_reducible refine MT.w_part ?_
  | ((with_reducible refine' MT.w_cutTo ?wh ?wa ?_); (case wh => walk_at "len"); (case wa => omega))
  | ((with_reducible refine' MT.w_cutFrom ?wh ?wa ?_); (case wh => walk_at "len"); (case wa => omega))
  | ((with_reducible refine' MT.w_addS ?wh ?_); (case wh => walk_at "len"))
  | ((with_reducible refine' MT.w_ixS ?wh ?wa ?_); (case wh => walk_at "len"); (case wa => assumption))
  | with_reducible refine MT.w_in1 ?_
  | with_reducible refine MT.w_notin1 ?_
  | with_reducible refine MT.w_chain ?_
  | with_reducible refine MT.w_rng3 ?_
  | ((with_reducible refine' MT.w_lenS ?wh ?_); (case wh => walk_at "len"))
  | with_reducible refine ⟨⟨_, rfl⟩, ?_⟩
  | with_reducible refine ⟨trivial, ?_⟩
  | with_reducible refine ⟨_, _, rfl, rfl, ?_⟩
  | fail "w1")

local macro_rules | `(tactic| walk_at "w1") => `(tactic| first
  | with_reducible refine MT.w_rEqS ?_
  | with_reducible refine MT.w_rNeS ?_
  | fail "w1")

namespace L
open PySem PySem.Spec PyProof.Rows L2 Z
def topS (i : Nat) : Stmt := PySem.Challenge.pw_papersat_k06_bank_makes_once.main.body.getD i (.Pass ⟨0, 0, 0, 0⟩)
abbrev s_BadNode_init : Stmt := inClass (topS 7) 0
abbrev N_BadNode_init : List Str := ["self", "number"]
theorem sc_BadNode_init : FnScope N_BadNode_init ["self", "number"] (defScope s_BadNode_init) := ⟨rfl, rfl, rfl, by decide +kernel, rfl, by decide +kernel, by decide +kernel⟩
abbrev s_Bank_init : Stmt := inClass (topS 18) 0
abbrev N_Bank_init : List Str := ["self", "signature"]
theorem sc_Bank_init : FnScope N_Bank_init ["self", "signature"] (defScope s_Bank_init) := ⟨rfl, rfl, rfl, by decide +kernel, rfl, by decide +kernel, by decide +kernel⟩
abbrev s_Bank_make : Stmt := inClass (topS 18) 1
abbrev N_Bank_make : List Str := ["self", "op", "value", "parts", "sorts", "part", "sort", "node"]
theorem sc_Bank_make : FnScope N_Bank_make ["self", "op", "value", "parts"] (defScope s_Bank_make) := ⟨rfl, rfl, rfl, by decide +kernel, rfl, by decide +kernel, by decide +kernel⟩
abbrev s_Bank_seek : Stmt := inClass (topS 18) 2
abbrev N_Bank_seek : List Str := ["self", "op", "value", "parts"]
theorem sc_Bank_seek : FnScope N_Bank_seek ["self", "op", "value", "parts"] (defScope s_Bank_seek) := ⟨rfl, rfl, rfl, by decide +kernel, rfl, by decide +kernel, by decide +kernel⟩
abbrev s_Bank_node : Stmt := inClass (topS 18) 3
abbrev N_Bank_node : List Str := ["self", "number"]
theorem sc_Bank_node : FnScope N_Bank_node ["self", "number"] (defScope s_Bank_node) := ⟨rfl, rfl, rfl, by decide +kernel, rfl, by decide +kernel, by decide +kernel⟩
abbrev s_Bank_sort_of : Stmt := inClass (topS 18) 4
abbrev N_Bank_sort_of : List Str := ["self", "number"]
theorem sc_Bank_sort_of : FnScope N_Bank_sort_of ["self", "number"] (defScope s_Bank_sort_of) := ⟨rfl, rfl, rfl, by decide +kernel, rfl, by decide +kernel, by decide +kernel⟩
abbrev s_Bank_has : Stmt := inClass (topS 18) 5
abbrev N_Bank_has : List Str := ["self", "number"]
theorem sc_Bank_has : FnScope N_Bank_has ["self", "number"] (defScope s_Bank_has) := ⟨rfl, rfl, rfl, by decide +kernel, rfl, by decide +kernel, by decide +kernel⟩
abbrev s_Bank_len : Stmt := inClass (topS 18) 6
abbrev N_Bank_len : List Str := ["self"]
theorem sc_Bank_len : FnScope N_Bank_len ["self"] (defScope s_Bank_len) := ⟨rfl, rfl, rfl, by decide +kernel, rfl, by decide +kernel, by decide +kernel⟩
abbrev s_Bank_iter : Stmt := inClass (topS 18) 7
abbrev N_Bank_iter : List Str := ["self"]
theorem sc_Bank_iter : FnScope N_Bank_iter ["self"] (defScope s_Bank_iter) := ⟨rfl, rfl, rfl, by decide +kernel, rfl, by decide +kernel, by decide +kernel⟩
abbrev s_parts_kept : Stmt := topS 19
abbrev N_parts_kept : List Str := ["op", "parts"]
theorem sc_parts_kept : FnScope N_parts_kept ["op", "parts"] (defScope s_parts_kept) := ⟨rfl, rfl, rfl, by decide +kernel, rfl, by decide +kernel, by decide +kernel⟩
abbrev s_sort_made : Stmt := topS 20
abbrev N_sort_made : List Str := ["signature", "op", "value", "sorts", "fits"]
theorem sc_sort_made : FnScope N_sort_made ["signature", "op", "value", "sorts"] (defScope s_sort_made) := ⟨rfl, rfl, rfl, by decide +kernel, rfl, by decide +kernel, by decide +kernel⟩
abbrev s_sum_fits : Stmt := topS 21
abbrev N_sum_fits : List Str := ["op", "sorts", "enough"]
theorem sc_sum_fits : FnScope N_sum_fits ["op", "sorts"] (defScope s_sum_fits) := ⟨rfl, rfl, rfl, by decide +kernel, rfl, by decide +kernel, by decide +kernel⟩
abbrev s_connective_fits : Stmt := topS 22
abbrev N_connective_fits : List Str := ["op", "sorts", "counts"]
theorem sc_connective_fits : FnScope N_connective_fits ["op", "sorts"] (defScope s_connective_fits) := ⟨rfl, rfl, rfl, by decide +kernel, rfl, by decide +kernel, by decide +kernel⟩
abbrev s_comparison_fits : Stmt := topS 23
abbrev N_comparison_fits : List Str := ["op", "sorts"]
theorem sc_comparison_fits : FnScope N_comparison_fits ["op", "sorts"] (defScope s_comparison_fits) := ⟨rfl, rfl, rfl, by decide +kernel, rfl, by decide +kernel, by decide +kernel⟩
abbrev s_all_of : Stmt := topS 24
abbrev N_all_of : List Str := ["sorts", "wanted", "sort"]
theorem sc_all_of : FnScope N_all_of ["sorts", "wanted"] (defScope s_all_of) := ⟨rfl, rfl, rfl, by decide +kernel, rfl, by decide +kernel, by decide +kernel⟩
abbrev s_is_name : Stmt := topS 27
abbrev N_is_name : List Str := ["text"]
theorem sc_is_name : FnScope N_is_name ["text"] (defScope s_is_name) := ⟨rfl, rfl, rfl, by decide +kernel, rfl, by decide +kernel, by decide +kernel⟩
abbrev s_Signature_init : Stmt := inClass (topS 30) 0
abbrev N_Signature_init : List Str := ["self"]
theorem sc_Signature_init : FnScope N_Signature_init ["self"] (defScope s_Signature_init) := ⟨rfl, rfl, rfl, by decide +kernel, rfl, by decide +kernel, by decide +kernel⟩
abbrev s_Signature_declare_sort : Stmt := inClass (topS 30) 1
abbrev N_Signature_declare_sort : List Str := ["self", "name"]
theorem sc_Signature_declare_sort : FnScope N_Signature_declare_sort ["self", "name"] (defScope s_Signature_declare_sort) := ⟨rfl, rfl, rfl, by decide +kernel, rfl, by decide +kernel, by decide +kernel⟩
abbrev s_Signature_declare_function : Stmt := inClass (topS 30) 2
abbrev N_Signature_declare_function : List Str := ["self", "name", "arguments", "result", "sort"]
theorem sc_Signature_declare_function : FnScope N_Signature_declare_function ["self", "name", "arguments", "result"] (defScope s_Signature_declare_function) := ⟨rfl, rfl, rfl, by decide +kernel, rfl, by decide +kernel, by decide +kernel⟩
abbrev s_Signature_functions : Stmt := inClass (topS 30) 4
abbrev N_Signature_functions : List Str := ["self"]
theorem sc_Signature_functions : FnScope N_Signature_functions ["self"] (defScope s_Signature_functions) := ⟨rfl, rfl, rfl, by decide +kernel, rfl, by decide +kernel, by decide +kernel⟩
abbrev s_Signature_knows_sort : Stmt := inClass (topS 30) 5
abbrev N_Signature_knows_sort : List Str := ["self", "name"]
theorem sc_Signature_knows_sort : FnScope N_Signature_knows_sort ["self", "name"] (defScope s_Signature_knows_sort) := ⟨rfl, rfl, rfl, by decide +kernel, rfl, by decide +kernel, by decide +kernel⟩
abbrev s_Signature_knows_function : Stmt := inClass (topS 30) 6
abbrev N_Signature_knows_function : List Str := ["self", "name"]
theorem sc_Signature_knows_function : FnScope N_Signature_knows_function ["self", "name"] (defScope s_Signature_knows_function) := ⟨rfl, rfl, rfl, by decide +kernel, rfl, by decide +kernel, by decide +kernel⟩
abbrev s_Signature_arguments_of : Stmt := inClass (topS 30) 7
abbrev N_Signature_arguments_of : List Str := ["self", "name"]
theorem sc_Signature_arguments_of : FnScope N_Signature_arguments_of ["self", "name"] (defScope s_Signature_arguments_of) := ⟨rfl, rfl, rfl, by decide +kernel, rfl, by decide +kernel, by decide +kernel⟩
abbrev s_Signature_result_of : Stmt := inClass (topS 30) 8
abbrev N_Signature_result_of : List Str := ["self", "name"]
theorem sc_Signature_result_of : FnScope N_Signature_result_of ["self", "name"] (defScope s_Signature_result_of) := ⟨rfl, rfl, rfl, by decide +kernel, rfl, by decide +kernel, by decide +kernel⟩
abbrev s_Signature_function : Stmt := inClass (topS 30) 9
abbrev N_Signature_function : List Str := ["self", "name"]
theorem sc_Signature_function : FnScope N_Signature_function ["self", "name"] (defScope s_Signature_function) := ⟨rfl, rfl, rfl, by decide +kernel, rfl, by decide +kernel, by decide +kernel⟩
abbrev s_Signature_refuse_name : Stmt := inClass (topS 30) 10
abbrev N_Signature_refuse_name : List Str := ["self", "name"]
theorem sc_Signature_refuse_name : FnScope N_Signature_refuse_name ["self", "name"] (defScope s_Signature_refuse_name) := ⟨rfl, rfl, rfl, by decide +kernel, rfl, by decide +kernel, by decide +kernel⟩
abbrev s_pool : Stmt := topS 32
abbrev N_pool : List Str := ["_law_script", "_law_k", "_law_cell", "_law_spare"]
theorem sc_pool : FnScope N_pool ["_law_script", "_law_k"] (defScope s_pool) := ⟨rfl, rfl, rfl, by decide +kernel, rfl, by decide +kernel, by decide +kernel⟩
abbrev s_take : Stmt := topS 33
abbrev N_take : List Str := ["_law_pool_here", "_law_size", "_law_k", "_law_cell", "_law_mixed"]
theorem sc_take : FnScope N_take ["_law_pool_here", "_law_size"] (defScope s_take) := ⟨rfl, rfl, rfl, by decide +kernel, rfl, by decide +kernel, by decide +kernel⟩
abbrev s_word : Stmt := topS 34
abbrev N_word : List Str := ["_law_pool_here", "_law_place", "_law_small", "_law_great", "_law_fill", "_law_size", "_law_at_here"]
theorem sc_word : FnScope N_word ["_law_pool_here", "_law_place"] (defScope s_word) := ⟨rfl, rfl, rfl, by decide +kernel, rfl, by decide +kernel, by decide +kernel⟩
abbrev s_world : Stmt := topS 35
abbrev N_world : List Str := ["_law_pool_here", "_law_told", "_law_rows", "_law_results", "_law_names", "_law_k"]
theorem sc_world : FnScope N_world ["_law_pool_here"] (defScope s_world) := ⟨rfl, rfl, rfl, by decide +kernel, rfl, by decide +kernel, by decide +kernel⟩
abbrev s_number : Stmt := topS 36
abbrev N_number : List Str := ["_law_pool_here"]
theorem sc_number : FnScope N_number ["_law_pool_here"] (defScope s_number) := ⟨rfl, rfl, rfl, by decide +kernel, rfl, by decide +kernel, by decide +kernel⟩
abbrev s_lowest : Stmt := topS 37
abbrev N_lowest : List Str := ["_law_p", "_law_q", "_law_a", "_law_b", "_law_k"]
theorem sc_lowest : FnScope N_lowest ["_law_p", "_law_q"] (defScope s_lowest) := ⟨rfl, rfl, rfl, by decide +kernel, rfl, by decide +kernel, by decide +kernel⟩
abbrev s_wide : Stmt := topS 38
abbrev N_wide : List Str := ["_law_pool_here", "_law_world_here", "_law_told", "_law_other", "_law_rows", "_law_results", "_law_names", "_law_k"]
theorem sc_wide : FnScope N_wide ["_law_pool_here", "_law_world_here"] (defScope s_wide) := ⟨rfl, rfl, rfl, by decide +kernel, rfl, by decide +kernel, by decide +kernel⟩
abbrev s_large : Stmt := topS 39
abbrev N_large : List Str := ["_law_pool_here"]
theorem sc_large : FnScope N_large ["_law_pool_here"] (defScope s_large) := ⟨rfl, rfl, rfl, by decide +kernel, rfl, by decide +kernel, by decide +kernel⟩
abbrev s_kind : Stmt := topS 40
abbrev N_kind : List Str := ["_law_pool_here", "_law_world_here", "_law_two", "_law_sort", "_law_number_here", "_law_fraction", "_law_many", "_law_pick", "_law_row", "_law_kinds"]
theorem sc_kind : FnScope N_kind ["_law_pool_here", "_law_world_here"] (defScope s_kind) := ⟨rfl, rfl, rfl, by decide +kernel, rfl, by decide +kernel, by decide +kernel⟩
abbrev s_some : Stmt := topS 41
abbrev N_some : List Str := ["_law_pool_here", "_law_sorts", "_law_sort", "_law_found", "_law_k"]
theorem sc_some : FnScope N_some ["_law_pool_here", "_law_sorts", "_law_sort"] (defScope s_some) := ⟨rfl, rfl, rfl, by decide +kernel, rfl, by decide +kernel, by decide +kernel⟩
abbrev s_making : Stmt := topS 42
abbrev N_making : List Str := ["_law_pool_here", "_law_world_here", "_law_sorts", "_law_op", "_law_value", "_law_wanted", "_law_parts", "_law_sort", "_law_lacking", "_law_constants", "_law_row"]
theorem sc_making : FnScope N_making ["_law_pool_here", "_law_world_here", "_law_sorts"] (defScope s_making) := ⟨rfl, rfl, rfl, by decide +kernel, rfl, by decide +kernel, by decide +kernel⟩
abbrev s_again : Stmt := topS 43
abbrev N_again : List Str := ["_law_pool_here", "_law_rows", "_law_op", "_law_value", "_law_parts", "_law_twist", "_law_near"]
theorem sc_again : FnScope N_again ["_law_pool_here", "_law_rows"] (defScope s_again) := ⟨rfl, rfl, rfl, by decide +kernel, rfl, by decide +kernel, by decide +kernel⟩
abbrev s_node : Stmt := topS 44
abbrev N_node : List Str := ["_law_making_here", "_law_op", "_law_value", "_law_parts"]
theorem sc_node : FnScope N_node ["_law_making_here"] (defScope s_node) := ⟨rfl, rfl, rfl, by decide +kernel, rfl, by decide +kernel, by decide +kernel⟩
abbrev s_node_sort : Stmt := topS 45
abbrev N_node_sort : List Str := ["_law_world_here", "_law_making_here", "_law_sorts", "_law_op", "_law_value", "_law_parts", "_law_row"]
theorem sc_node_sort : FnScope N_node_sort ["_law_world_here", "_law_making_here", "_law_sorts"] (defScope s_node_sort) := ⟨rfl, rfl, rfl, by decide +kernel, rfl, by decide +kernel, by decide +kernel⟩
abbrev s_whole : Stmt := topS 46
abbrev N_whole : List Str := ["_law_value"]
theorem sc_whole : FnScope N_whole ["_law_value"] (defScope s_whole) := ⟨rfl, rfl, rfl, by decide +kernel, rfl, by decide +kernel, by decide +kernel⟩
abbrev s_alike : Stmt := topS 47
abbrev N_alike : List Str := ["_law_told", "_law_due", "_law_k"]
theorem sc_alike : FnScope N_alike ["_law_told", "_law_due"] (defScope s_alike) := ⟨rfl, rfl, rfl, by decide +kernel, rfl, by decide +kernel, by decide +kernel⟩
abbrev s_asked : Stmt := topS 48
abbrev N_asked : List Str := ["_law_bank", "_law_number_here", "_law_way"]
theorem sc_asked : FnScope N_asked ["_law_bank", "_law_number_here", "_law_way"] (defScope s_asked) := ⟨rfl, rfl, rfl, by decide +kernel, rfl, by decide +kernel, by decide +kernel⟩
abbrev s_refused : Stmt := topS 49
abbrev N_refused : List Str := ["_law_bank", "_law_number_here", "_law_way", "e"]
theorem sc_refused : FnScope N_refused ["_law_bank", "_law_number_here", "_law_way"] (defScope s_refused) := ⟨rfl, rfl, rfl, by decide +kernel, rfl, by decide +kernel, by decide +kernel⟩
abbrev s_refused_by_base : Stmt := topS 50
abbrev N_refused_by_base : List Str := ["_law_bank", "_law_number_here", "_law_way", "e", "_law_others"]
theorem sc_refused_by_base : FnScope N_refused_by_base ["_law_bank", "_law_number_here", "_law_way"] (defScope s_refused_by_base) := ⟨rfl, rfl, rfl, by decide +kernel, rfl, by decide +kernel, by decide +kernel⟩
abbrev s_at : Stmt := topS 51
abbrev N_at : List Str := ["_law_bank", "_law_model", "_law_number_here"]
theorem sc_at : FnScope N_at ["_law_bank", "_law_model", "_law_number_here"] (defScope s_at) := ⟨rfl, rfl, rfl, by decide +kernel, rfl, by decide +kernel, by decide +kernel⟩
abbrev s_step : Stmt := topS 52
abbrev N_step : List Str := ["_law_pool_here", "_law_world_here", "_law_bank", "_law_model", "_law_making_here", "_law_op", "_law_value", "_law_parts", "_law_node_here", "_law_due", "_law_handed", "_law_turned"]
theorem sc_step : FnScope N_step ["_law_pool_here", "_law_world_here", "_law_bank", "_law_model", "_law_making_here"] (defScope s_step) := ⟨rfl, rfl, rfl, by decide +kernel, rfl, by decide +kernel, by decide +kernel⟩
abbrev s_end : Stmt := topS 53
abbrev N_end : List Str := ["_law_pool_here", "_law_bank", "_law_model", "_law_size", "_law_turn", "_law_nodes", "_law_number_here"]
theorem sc_end : FnScope N_end ["_law_pool_here", "_law_bank", "_law_model"] (defScope s_end) := ⟨rfl, rfl, rfl, by decide +kernel, rfl, by decide +kernel, by decide +kernel⟩
abbrev s_law : Stmt := topS 54
abbrev N_law : List Str := ["_law_script", "_law_first", "_law_second", "_law_world_here", "_law_signature", "_law_early", "_law_row", "_law_banks", "_law_models", "_law_k", "_law_keeper", "_law_start", "_law_run", "_law_pool_here", "_law_which", "_law_model", "_law_making_here"]
theorem sc_law : FnScope N_law ["_law_script"] (defScope s_law) := ⟨rfl, rfl, rfl, by decide +kernel, rfl, by decide +kernel, by decide +kernel⟩
def lit_0 : List Nat := [116, 104, 101, 114, 101, 32, 105, 115, 32, 110, 111, 32, 110, 111, 100, 101, 32]
def lit_1 : List Nat := [97, 98, 99, 100, 101, 102, 103, 104, 105, 106, 107, 108, 109, 110, 111, 112, 113, 114, 115, 116, 117, 118, 119, 120, 121, 122]
def lit_2 : List Nat := [65, 66, 67, 68, 69, 70, 71, 72, 73, 74, 75, 76, 77, 78, 79, 80, 81, 82, 83, 84, 85, 86, 87, 88, 89, 90]
abbrev w_OPS : List (List Nat) := [[116, 114, 117, 101], [102, 97, 108, 115, 101], [110, 111, 116], [97, 110, 100], [111, 114], [105, 109, 112, 108, 121], [105, 102], [101, 113, 117, 97, 108], [100, 105, 115, 116, 105, 110, 99, 116], [109, 111, 115, 116], [108, 101, 115, 115], [119, 104, 111, 108, 101], [115, 104, 105, 102, 116], [114, 97, 116, 105, 111], [115, 117, 109], [115, 99, 97, 108, 101], [99, 97, 108, 108]]
abbrev w_RESERVED : List (List Nat) := [[116, 114, 117, 116, 104], [119, 104, 111, 108, 101], [114, 97, 116, 105, 111], [116, 114, 117, 101], [102, 97, 108, 115, 101], [110, 111, 116], [97, 110, 100], [111, 114], [105, 109, 112, 108, 121], [105, 102], [100, 105, 115, 116, 105, 110, 99, 116], [108, 101, 116]]
abbrev w_BASE_SORTS : List (List Nat) := [[116, 114, 117, 116, 104], [119, 104, 111, 108, 101], [114, 97, 116, 105, 111]]
abbrev w_CONNECTIVES : List (List Nat) := [[110, 111, 116], [97, 110, 100], [111, 114], [105, 109, 112, 108, 121]]
abbrev d_LEAF_SORTS : List (List Nat × List Nat) := [([116, 114, 117, 101], [116, 114, 117, 116, 104]), ([102, 97, 108, 115, 101], [116, 114, 117, 116, 104]), ([119, 104, 111, 108, 101], [119, 104, 111, 108, 101]), ([114, 97, 116, 105, 111], [114, 97, 116, 105, 111])]
abbrev d_SUMS : List (List Nat × List Nat) := [([115, 104, 105, 102, 116], [119, 104, 111, 108, 101]), ([115, 99, 97, 108, 101], [114, 97, 116, 105, 111]), ([115, 117, 109], [114, 97, 116, 105, 111])]
abbrev x_LEAF_SORTS : List (List Nat) := [[110, 111, 116], [97, 110, 100], [111, 114], [105, 109, 112, 108, 121], [105, 102], [101, 113, 117, 97, 108], [100, 105, 115, 116, 105, 110, 99, 116], [109, 111, 115, 116], [108, 101, 115, 115], [115, 104, 105, 102, 116], [115, 117, 109], [115, 99, 97, 108, 101], [99, 97, 108, 108]]
abbrev x_SUMS : List (List Nat) := [[116, 114, 117, 101], [102, 97, 108, 115, 101], [110, 111, 116], [97, 110, 100], [111, 114], [105, 109, 112, 108, 121], [105, 102], [101, 113, 117, 97, 108], [100, 105, 115, 116, 105, 110, 99, 116], [109, 111, 115, 116], [108, 101, 115, 115], [119, 104, 111, 108, 101], [114, 97, 116, 105, 111], [99, 97, 108, 108]]
structure Txt (K : PySem.W.Frag) (mg : Str → Option Value) : Type where
  f_BadNode_init : Addr
  fd_BadNode_init : FuncData
  F_BadNode_init : Fun K "__init__" "BadNode.__init__" s_BadNode_init f_BadNode_init fd_BadNode_init
  b_BadNode_init : Binds K fd_BadNode_init ["self", "number"] []
  f_Bank_init : Addr
  fd_Bank_init : FuncData
  F_Bank_init : Fun K "__init__" "Bank.__init__" s_Bank_init f_Bank_init fd_Bank_init
  b_Bank_init : Binds K fd_Bank_init ["self", "signature"] []
  f_Bank_make : Addr
  fd_Bank_make : FuncData
  F_Bank_make : Fun K "make" "Bank.make" s_Bank_make f_Bank_make fd_Bank_make
  b_Bank_make : Binds K fd_Bank_make ["self", "op", "value", "parts"] []
  f_Bank_seek : Addr
  fd_Bank_seek : FuncData
  F_Bank_seek : Fun K "seek" "Bank.seek" s_Bank_seek f_Bank_seek fd_Bank_seek
  b_Bank_seek : Binds K fd_Bank_seek ["self", "op", "value", "parts"] []
  f_Bank_node : Addr
  fd_Bank_node : FuncData
  F_Bank_node : Fun K "node" "Bank.node" s_Bank_node f_Bank_node fd_Bank_node
  b_Bank_node : Binds K fd_Bank_node ["self", "number"] []
  f_Bank_sort_of : Addr
  fd_Bank_sort_of : FuncData
  F_Bank_sort_of : Fun K "sort_of" "Bank.sort_of" s_Bank_sort_of f_Bank_sort_of fd_Bank_sort_of
  b_Bank_sort_of : Binds K fd_Bank_sort_of ["self", "number"] []
  f_Bank_has : Addr
  fd_Bank_has : FuncData
  F_Bank_has : Fun K "has" "Bank.has" s_Bank_has f_Bank_has fd_Bank_has
  b_Bank_has : Binds K fd_Bank_has ["self", "number"] []
  f_Bank_len : Addr
  fd_Bank_len : FuncData
  F_Bank_len : Fun K "__len__" "Bank.__len__" s_Bank_len f_Bank_len fd_Bank_len
  b_Bank_len : Binds K fd_Bank_len ["self"] []
  f_Bank_iter : Addr
  fd_Bank_iter : FuncData
  F_Bank_iter : Fun K "__iter__" "Bank.__iter__" s_Bank_iter f_Bank_iter fd_Bank_iter
  b_Bank_iter : Binds K fd_Bank_iter ["self"] []
  f_parts_kept : Addr
  fd_parts_kept : FuncData
  F_parts_kept : Fun K "_parts_kept" "_parts_kept" s_parts_kept f_parts_kept fd_parts_kept
  b_parts_kept : Binds K fd_parts_kept ["op", "parts"] []
  g_parts_kept : mg "_parts_kept" = some (.ref f_parts_kept)
  f_sort_made : Addr
  fd_sort_made : FuncData
  F_sort_made : Fun K "_sort_made" "_sort_made" s_sort_made f_sort_made fd_sort_made
  b_sort_made : Binds K fd_sort_made ["signature", "op", "value", "sorts"] []
  g_sort_made : mg "_sort_made" = some (.ref f_sort_made)
  f_sum_fits : Addr
  fd_sum_fits : FuncData
  F_sum_fits : Fun K "_sum_fits" "_sum_fits" s_sum_fits f_sum_fits fd_sum_fits
  b_sum_fits : Binds K fd_sum_fits ["op", "sorts"] []
  g_sum_fits : mg "_sum_fits" = some (.ref f_sum_fits)
  f_connective_fits : Addr
  fd_connective_fits : FuncData
  F_connective_fits : Fun K "_connective_fits" "_connective_fits" s_connective_fits f_connective_fits fd_connective_fits
  b_connective_fits : Binds K fd_connective_fits ["op", "sorts"] []
  g_connective_fits : mg "_connective_fits" = some (.ref f_connective_fits)
  f_comparison_fits : Addr
  fd_comparison_fits : FuncData
  F_comparison_fits : Fun K "_comparison_fits" "_comparison_fits" s_comparison_fits f_comparison_fits fd_comparison_fits
  b_comparison_fits : Binds K fd_comparison_fits ["op", "sorts"] []
  g_comparison_fits : mg "_comparison_fits" = some (.ref f_comparison_fits)
  f_all_of : Addr
  fd_all_of : FuncData
  F_all_of : Fun K "_all_of" "_all_of" s_all_of f_all_of fd_all_of
  b_all_of : Binds K fd_all_of ["sorts", "wanted"] []
  g_all_of : mg "_all_of" = some (.ref f_all_of)
  f_is_name : Addr
  fd_is_name : FuncData
  F_is_name : Fun K "is_name" "is_name" s_is_name f_is_name fd_is_name
  b_is_name : Binds K fd_is_name ["text"] []
  g_is_name : mg "is_name" = some (.ref f_is_name)
  f_Signature_init : Addr
  fd_Signature_init : FuncData
  F_Signature_init : Fun K "__init__" "Signature.__init__" s_Signature_init f_Signature_init fd_Signature_init
  b_Signature_init : Binds K fd_Signature_init ["self"] []
  f_Signature_declare_sort : Addr
  fd_Signature_declare_sort : FuncData
  F_Signature_declare_sort : Fun K "declare_sort" "Signature.declare_sort" s_Signature_declare_sort f_Signature_declare_sort fd_Signature_declare_sort
  b_Signature_declare_sort : Binds K fd_Signature_declare_sort ["self", "name"] []
  f_Signature_declare_function : Addr
  fd_Signature_declare_function : FuncData
  F_Signature_declare_function : Fun K "declare_function" "Signature.declare_function" s_Signature_declare_function f_Signature_declare_function fd_Signature_declare_function
  b_Signature_declare_function : Binds K fd_Signature_declare_function ["self", "name", "arguments", "result"] []
  f_Signature_functions : Addr
  fd_Signature_functions : FuncData
  F_Signature_functions : Fun K "functions" "Signature.functions" s_Signature_functions f_Signature_functions fd_Signature_functions
  b_Signature_functions : Binds K fd_Signature_functions ["self"] []
  f_Signature_knows_sort : Addr
  fd_Signature_knows_sort : FuncData
  F_Signature_knows_sort : Fun K "knows_sort" "Signature.knows_sort" s_Signature_knows_sort f_Signature_knows_sort fd_Signature_knows_sort
  b_Signature_knows_sort : Binds K fd_Signature_knows_sort ["self", "name"] []
  f_Signature_knows_function : Addr
  fd_Signature_knows_function : FuncData
  F_Signature_knows_function : Fun K "knows_function" "Signature.knows_function" s_Signature_knows_function f_Signature_knows_function fd_Signature_knows_function
  b_Signature_knows_function : Binds K fd_Signature_knows_function ["self", "name"] []
  f_Signature_arguments_of : Addr
  fd_Signature_arguments_of : FuncData
  F_Signature_arguments_of : Fun K "arguments_of" "Signature.arguments_of" s_Signature_arguments_of f_Signature_arguments_of fd_Signature_arguments_of
  b_Signature_arguments_of : Binds K fd_Signature_arguments_of ["self", "name"] []
  f_Signature_result_of : Addr
  fd_Signature_result_of : FuncData
  F_Signature_result_of : Fun K "result_of" "Signature.result_of" s_Signature_result_of f_Signature_result_of fd_Signature_result_of
  b_Signature_result_of : Binds K fd_Signature_result_of ["self", "name"] []
  f_Signature_function : Addr
  fd_Signature_function : FuncData
  F_Signature_function : Fun K "_function" "Signature._function" s_Signature_function f_Signature_function fd_Signature_function
  b_Signature_function : Binds K fd_Signature_function ["self", "name"] []
  f_Signature_refuse_name : Addr
  fd_Signature_refuse_name : FuncData
  F_Signature_refuse_name : Fun K "_refuse_name" "Signature._refuse_name" s_Signature_refuse_name f_Signature_refuse_name fd_Signature_refuse_name
  b_Signature_refuse_name : Binds K fd_Signature_refuse_name ["self", "name"] []
  f_pool : Addr
  fd_pool : FuncData
  F_pool : Fun K "_law_pool" "_law_pool" s_pool f_pool fd_pool
  b_pool : Binds K fd_pool ["_law_script", "_law_k"] []
  g_pool : mg "_law_pool" = some (.ref f_pool)
  f_take : Addr
  fd_take : FuncData
  F_take : Fun K "_law_take" "_law_take" s_take f_take fd_take
  b_take : Binds K fd_take ["_law_pool_here", "_law_size"] []
  g_take : mg "_law_take" = some (.ref f_take)
  f_word : Addr
  fd_word : FuncData
  F_word : Fun K "_law_word" "_law_word" s_word f_word fd_word
  b_word : Binds K fd_word ["_law_pool_here", "_law_place"] []
  g_word : mg "_law_word" = some (.ref f_word)
  f_world : Addr
  fd_world : FuncData
  F_world : Fun K "_law_world" "_law_world" s_world f_world fd_world
  b_world : Binds K fd_world ["_law_pool_here"] []
  g_world : mg "_law_world" = some (.ref f_world)
  f_number : Addr
  fd_number : FuncData
  F_number : Fun K "_law_number" "_law_number" s_number f_number fd_number
  b_number : Binds K fd_number ["_law_pool_here"] []
  g_number : mg "_law_number" = some (.ref f_number)
  f_lowest : Addr
  fd_lowest : FuncData
  F_lowest : Fun K "_law_lowest" "_law_lowest" s_lowest f_lowest fd_lowest
  b_lowest : Binds K fd_lowest ["_law_p", "_law_q"] []
  g_lowest : mg "_law_lowest" = some (.ref f_lowest)
  f_wide : Addr
  fd_wide : FuncData
  F_wide : Fun K "_law_wide" "_law_wide" s_wide f_wide fd_wide
  b_wide : Binds K fd_wide ["_law_pool_here", "_law_world_here"] []
  g_wide : mg "_law_wide" = some (.ref f_wide)
  f_large : Addr
  fd_large : FuncData
  F_large : Fun K "_law_large" "_law_large" s_large f_large fd_large
  b_large : Binds K fd_large ["_law_pool_here"] []
  g_large : mg "_law_large" = some (.ref f_large)
  f_kind : Addr
  fd_kind : FuncData
  F_kind : Fun K "_law_kind" "_law_kind" s_kind f_kind fd_kind
  b_kind : Binds K fd_kind ["_law_pool_here", "_law_world_here"] []
  g_kind : mg "_law_kind" = some (.ref f_kind)
  f_some : Addr
  fd_some : FuncData
  F_some : Fun K "_law_some" "_law_some" s_some f_some fd_some
  b_some : Binds K fd_some ["_law_pool_here", "_law_sorts", "_law_sort"] []
  g_some : mg "_law_some" = some (.ref f_some)
  f_making : Addr
  fd_making : FuncData
  F_making : Fun K "_law_making" "_law_making" s_making f_making fd_making
  b_making : Binds K fd_making ["_law_pool_here", "_law_world_here", "_law_sorts"] []
  g_making : mg "_law_making" = some (.ref f_making)
  f_again : Addr
  fd_again : FuncData
  F_again : Fun K "_law_again" "_law_again" s_again f_again fd_again
  b_again : Binds K fd_again ["_law_pool_here", "_law_rows"] []
  g_again : mg "_law_again" = some (.ref f_again)
  f_node : Addr
  fd_node : FuncData
  F_node : Fun K "_law_node" "_law_node" s_node f_node fd_node
  b_node : Binds K fd_node ["_law_making_here"] []
  g_node : mg "_law_node" = some (.ref f_node)
  f_node_sort : Addr
  fd_node_sort : FuncData
  F_node_sort : Fun K "_law_node_sort" "_law_node_sort" s_node_sort f_node_sort fd_node_sort
  b_node_sort : Binds K fd_node_sort ["_law_world_here", "_law_making_here", "_law_sorts"] []
  g_node_sort : mg "_law_node_sort" = some (.ref f_node_sort)
  f_whole : Addr
  fd_whole : FuncData
  F_whole : Fun K "_law_whole" "_law_whole" s_whole f_whole fd_whole
  b_whole : Binds K fd_whole ["_law_value"] []
  g_whole : mg "_law_whole" = some (.ref f_whole)
  f_alike : Addr
  fd_alike : FuncData
  F_alike : Fun K "_law_alike" "_law_alike" s_alike f_alike fd_alike
  b_alike : Binds K fd_alike ["_law_told", "_law_due"] []
  g_alike : mg "_law_alike" = some (.ref f_alike)
  f_asked : Addr
  fd_asked : FuncData
  F_asked : Fun K "_law_asked" "_law_asked" s_asked f_asked fd_asked
  b_asked : Binds K fd_asked ["_law_bank", "_law_number_here", "_law_way"] []
  g_asked : mg "_law_asked" = some (.ref f_asked)
  f_refused : Addr
  fd_refused : FuncData
  F_refused : Fun K "_law_refused" "_law_refused" s_refused f_refused fd_refused
  b_refused : Binds K fd_refused ["_law_bank", "_law_number_here", "_law_way"] []
  g_refused : mg "_law_refused" = some (.ref f_refused)
  f_refused_by_base : Addr
  fd_refused_by_base : FuncData
  F_refused_by_base : Fun K "_law_refused_by_base" "_law_refused_by_base" s_refused_by_base f_refused_by_base fd_refused_by_base
  b_refused_by_base : Binds K fd_refused_by_base ["_law_bank", "_law_number_here", "_law_way"] []
  g_refused_by_base : mg "_law_refused_by_base" = some (.ref f_refused_by_base)
  f_at : Addr
  fd_at : FuncData
  F_at : Fun K "_law_at" "_law_at" s_at f_at fd_at
  b_at : Binds K fd_at ["_law_bank", "_law_model", "_law_number_here"] []
  g_at : mg "_law_at" = some (.ref f_at)
  f_step : Addr
  fd_step : FuncData
  F_step : Fun K "_law_step" "_law_step" s_step f_step fd_step
  b_step : Binds K fd_step ["_law_pool_here", "_law_world_here", "_law_bank", "_law_model", "_law_making_here"] []
  g_step : mg "_law_step" = some (.ref f_step)
  f_end : Addr
  fd_end : FuncData
  F_end : Fun K "_law_end" "_law_end" s_end f_end fd_end
  b_end : Binds K fd_end ["_law_pool_here", "_law_bank", "_law_model"] []
  g_end : mg "_law_end" = some (.ref f_end)
  f_law : Addr
  fd_law : FuncData
  F_law : Fun K "law" "law" s_law f_law fd_law
  b_law : Binds K fd_law ["_law_script"] []
  g_law : mg "law" = some (.ref f_law)
  C_Signature : Addr
  c_Signature : mg "Signature" = some (.ref C_Signature)
  cl_Signature : Cls K C_Signature
  mk_Signature : Mk K C_Signature f_Signature_init
  n_Signature__sorts : NoAttr K C_Signature "_sorts"
  n_Signature__functions : NoAttr K C_Signature "_functions"
  M_Signature_init : Meth K C_Signature "__init__" f_Signature_init
  M_Signature_declare_sort : Meth K C_Signature "declare_sort" f_Signature_declare_sort
  M_Signature_declare_function : Meth K C_Signature "declare_function" f_Signature_declare_function
  M_Signature_functions : Meth K C_Signature "functions" f_Signature_functions
  M_Signature_knows_sort : Meth K C_Signature "knows_sort" f_Signature_knows_sort
  M_Signature_knows_function : Meth K C_Signature "knows_function" f_Signature_knows_function
  M_Signature_arguments_of : Meth K C_Signature "arguments_of" f_Signature_arguments_of
  M_Signature_result_of : Meth K C_Signature "result_of" f_Signature_result_of
  M_Signature_function : Meth K C_Signature "_function" f_Signature_function
  M_Signature_refuse_name : Meth K C_Signature "_refuse_name" f_Signature_refuse_name
  C_Bank : Addr
  c_Bank : mg "Bank" = some (.ref C_Bank)
  cl_Bank : Cls K C_Bank
  mk_Bank : Mk K C_Bank f_Bank_init
  n_Bank_signature : NoAttr K C_Bank "signature"
  n_Bank__nodes : NoAttr K C_Bank "_nodes"
  n_Bank__sorts : NoAttr K C_Bank "_sorts"
  n_Bank__numbers : NoAttr K C_Bank "_numbers"
  M_Bank_init : Meth K C_Bank "__init__" f_Bank_init
  M_Bank_make : Meth K C_Bank "make" f_Bank_make
  M_Bank_seek : Meth K C_Bank "seek" f_Bank_seek
  M_Bank_node : Meth K C_Bank "node" f_Bank_node
  M_Bank_sort_of : Meth K C_Bank "sort_of" f_Bank_sort_of
  M_Bank_has : Meth K C_Bank "has" f_Bank_has
  M_Bank_len : Meth K C_Bank "__len__" f_Bank_len
  M_Bank_iter : Meth K C_Bank "__iter__" f_Bank_iter
  ln_Bank : OWN.LnC K C_Bank f_Bank_len
  it_Bank : OWN.ItB K C_Bank f_Bank_iter f_Bank_len
  m_len : mg "len" = none
  m_int : mg "int" = none
  m_abs : mg "abs" = none
  m_min : mg "min" = none
  m_max : mg "max" = none
  m_isinstance : mg "isinstance" = none
  m_range : mg "range" = none
  m_bool : mg "bool" = none
  m_str : mg "str" = none
  m_list : mg "list" = none
  m_tuple : mg "tuple" = none
  m_sorted : mg "sorted" = none
  m_all : mg "all" = none
  m_ValueError : mg "ValueError" = none
  m_iter : mg "iter" = none
  A_OPS : Addr
  g_OPS : mg "OPS" = some (.ref A_OPS)
  z_OPS : ∀ H : Hp, SqT K H A_OPS (w_OPS.map fun l => V.str (_root_.SX.S l))
  A_RESERVED : Addr
  g_RESERVED : mg "RESERVED" = some (.ref A_RESERVED)
  z_RESERVED : ∀ H : Hp, SqT K H A_RESERVED (w_RESERVED.map fun l => V.str (_root_.SX.S l))
  A_BASE_SORTS : Addr
  g_BASE_SORTS : mg "BASE_SORTS" = some (.ref A_BASE_SORTS)
  z_BASE_SORTS : ∀ H : Hp, SqT K H A_BASE_SORTS (w_BASE_SORTS.map fun l => V.str (_root_.SX.S l))
  A_CONNECTIVES : Addr
  g_CONNECTIVES : mg "CONNECTIVES" = some (.ref A_CONNECTIVES)
  z_CONNECTIVES : ∀ H : Hp, SqT K H A_CONNECTIVES (w_CONNECTIVES.map fun l => V.str (_root_.SX.S l))
  A_LEAF_SORTS : Addr
  g_LEAF_SORTS : mg "LEAF_SORTS" = some (.ref A_LEAF_SORTS)
  n_LEAF_SORTS : ∀ q ∈ d_LEAF_SORTS, ∃ t, PySem.W.nsIn K A_LEAF_SORTS (_root_.SX.S q.1) = some (some (.str (_root_.SX.S q.2) t))
  A_SUMS : Addr
  g_SUMS : mg "SUMS" = some (.ref A_SUMS)
  n_SUMS : ∀ q ∈ d_SUMS, ∃ t, PySem.W.nsIn K A_SUMS (_root_.SX.S q.1) = some (some (.str (_root_.SX.S q.2) t))
  C_BadNode : Addr
  c_BadNode : mg "BadNode" = some (.ref C_BadNode)
  C_PaperError : Addr
  c_PaperError : mg "PaperError" = some (.ref C_PaperError)
  C_BadModel : Addr
  c_BadModel : mg "BadModel" = some (.ref C_BadModel)
  C_BadName : Addr
  c_BadName : mg "BadName" = some (.ref C_BadName)
  C_BadLiteral : Addr
  c_BadLiteral : mg "BadLiteral" = some (.ref C_BadLiteral)
  C_BadRatio : Addr
  c_BadRatio : mg "BadRatio" = some (.ref C_BadRatio)
  C_BadSort : Addr
  c_BadSort : mg "BadSort" = some (.ref C_BadSort)
  C_BadText : Addr
  c_BadText : mg "BadText" = some (.ref C_BadText)
  C_NameTaken : Addr
  c_NameTaken : mg "NameTaken" = some (.ref C_NameTaken)
  C_NoAnswer : Addr
  c_NoAnswer : mg "NoAnswer" = some (.ref C_NoAnswer)
  C_NoLevel : Addr
  c_NoLevel : mg "NoLevel" = some (.ref C_NoLevel)
  C_UnknownName : Addr
  c_UnknownName : mg "UnknownName" = some (.ref C_UnknownName)
  xb_PaperError : X2.XB K C_PaperError
  xo_BadNode : X2.XO K C_BadNode f_BadNode_init "number"
  e_BadNode_BadNode : PySem.W.exmOne K (.ref C_BadNode) (.ref C_BadNode) = some true
  e_BadNode_PaperError : PySem.W.exmOne K (.ref C_BadNode) (.ref C_PaperError) = some true
  k_BadNode_BadModel : PySem.W.kitOne K (.ref C_BadNode) (.ref C_BadModel) = some false
  k_BadNode_BadName : PySem.W.kitOne K (.ref C_BadNode) (.ref C_BadName) = some false
  k_BadNode_BadLiteral : PySem.W.kitOne K (.ref C_BadNode) (.ref C_BadLiteral) = some false
  k_BadNode_BadRatio : PySem.W.kitOne K (.ref C_BadNode) (.ref C_BadRatio) = some false
  k_BadNode_BadSort : PySem.W.kitOne K (.ref C_BadNode) (.ref C_BadSort) = some false
  k_BadNode_BadText : PySem.W.kitOne K (.ref C_BadNode) (.ref C_BadText) = some false
  k_BadNode_NameTaken : PySem.W.kitOne K (.ref C_BadNode) (.ref C_NameTaken) = some false
  k_BadNode_NoAnswer : PySem.W.kitOne K (.ref C_BadNode) (.ref C_NoAnswer) = some false
  k_BadNode_NoLevel : PySem.W.kitOne K (.ref C_BadNode) (.ref C_NoLevel) = some false
  k_BadNode_UnknownName : PySem.W.kitOne K (.ref C_BadNode) (.ref C_UnknownName) = some false
  k_BadNode_BadNode : PySem.W.kitOne K (.ref C_BadNode) (.ref C_BadNode) = some true
  k_BadNode_ValueError : PySem.W.kitOne K (.ref C_BadNode) (.type "ValueError") = some true

  c_ao : Addr
  P_ao : Addr
  FT_ao : FunT K "_all_of" "_all_of" s_all_of f_all_of fd_all_of c_ao
  m_LEAF_SORTS : ∀ q ∈ x_LEAF_SORTS, PySem.W.nsIn K A_LEAF_SORTS (_root_.SX.S q) = some none
  m_SUMS : ∀ q ∈ x_SUMS, PySem.W.nsIn K A_SUMS (_root_.SX.S q) = some none
end L

namespace L
open PySem PySem.Spec PyProof.Rows L2 Z
section
variable {P : Program} {w : World} {K : PySem.W.Frag} {mg : Str → Option Value} {base : Heap}
def spPool (K : PySem.W.Frag) : Sp := fun vs H Q _ => ∃ (a : Addr) (ns : List Int) (k : Int), vs = [.ref a, .int k] ∧ SqL K H a (ns.map V.int) ∧ ns.length ≤ 1000 ∧ 0 ≤ k ∧ k < 2 ^ 62 ∧ ∀ q o, H q = none → IsPool o → Q (.ref q) (upd H q o)
def spTake : Sp := fun vs H Q _ => ∃ (q : Addr) (o : HO) (n : Int), vs = [.ref q, .int n] ∧ H q = some o ∧ IsPool o ∧ 0 < n ∧ n < 4611686018427387904 ∧ ∀ r o', 0 ≤ r → r < n → IsPool o' → Q (.int r) (upd H q o')
theorem ok_take (T : Txt K mg) : FnOk P w K mg base CX0 1 T.f_take T.fd_take ["_law_pool_here", "_law_size"] spTake := by
  refine T.F_take.ok sc_take (fun vs H Q E h => ?_) (fun cdv A outer s H vs Q E hr h => ?_)
  · obtain ⟨q, o, n, rfl, _⟩ := h
    rfl
  · obtain ⟨q, o, n, rfl, ho, ⟨c, k, b, s', rfl⟩, hn, hn2, hq⟩ := h
    refine ⟨_, (pss_cons (ps_set (i := 2) sc_take.nd rfl (.inl rfl) (pe_ix ix_list (pv 0) pe_int (fun _ _ => rfl)))
 (pss_cons (ps_asg (pe_op op_add (pv 2) pe_int) (pg_sub (pv 0) pe_int set_list))
 (pss_cons (ps_set (i := 3) sc_take.nd rfl (.inl rfl) (pe_ix ix_list (pv 0) pe_int (fun _ _ => rfl)))
 (pss_cons (ps_if (PW.pt (pw_and (pt_val (pe_ix ix_list (pv 0) pe_int (fun _ _ => rfl))) (pw_and1 (pt_cmpR op_gt (pv 3) pe_int (nomark _))))) (pss_cons (ps_asg (pe_op op_fdivW (pv 3) (pv 1)) (pg_sub (pv 0) pe_int set_list))
 (pss_one (ps_ret (pe_op op_mod (pe_callTy call_int1 (by rfl) T.m_int (by decide +kernel) (pa_cons (pv 3) pa_nil)) (pv 1))))) pss_nil)
 (pss_cons (ps_if (pt_val (pe_ix ix_list (pv 0) pe_int (fun _ _ => rfl))) (pss_one (ps_set (i := 3) sc_take.nd rfl (.inl rfl) (pe_ix ix_list (pv 0) pe_int (fun _ _ => rfl)))) pss_nil)
 (pss_cons (ps_set (i := 4) sc_take.nd rfl (.inl rfl) (pe_op op_mod (pe_callTy call_int1 (by rfl) T.m_int (by decide +kernel) (pa_cons (pe_op op_add (pe_op op_add (pv 3) (pe_op op_mul pe_int (pv 2))) pe_int) pa_nil)) pe_int))
 (pss_cons (ps_set (i := 4) sc_take.nd rfl (.inl rfl) (pe_op op_mod (pe_callTy call_int1 (by rfl) T.m_int (by decide +kernel) (pa_cons (pe_op op_mul (pv 4) (pe_op op_add (pv 4) pe_int)) pa_nil)) pe_int))
 (pss_cons (ps_set (i := 4) sc_take.nd rfl (.inl rfl) (pe_op op_mod (pe_callTy call_int1 (by rfl) T.m_int (by decide +kernel) (pa_cons (pe_op op_add (pe_op op_mul (pv 4) (pe_op op_add (pv 4) pe_int)) (pe_op op_mul pe_int (pv 2))) pa_nil)) pe_int))
 (pss_one (ps_ret (pe_op op_mod (pe_callTy call_int1 (by rfl) T.m_int (by decide +kernel) (pa_cons (pe_op op_fdivW (pv 4) pe_int) pa_nil)) (pv 1)))))))))))), ?_⟩
    refine Z.w_start (σ' := [some (.ref q), some (.int n), none, none, none]) rfl ?_
    walk_at "w"
    cases b with
    | true =>
      walk_at "w"
      walk_at "wi"
      all_goals walk_at "w"
      all_goals exact hq _ _ (Int.emod_nonneg _ (by omega)) (Int.emod_lt_of_pos _ hn) ⟨_, _, _, _, rfl⟩
    | false =>
      walk_at "w"
      all_goals exact hq _ _ (Int.emod_nonneg _ (by omega)) (Int.emod_lt_of_pos _ hn) ⟨_, _, _, _, rfl⟩
theorem ok_pool (T : Txt K mg) : FnOk P w K mg base CX0 1 T.f_pool T.fd_pool ["_law_script", "_law_k"] (spPool K) := by
  refine T.F_pool.ok sc_pool (fun vs H Q E h => ?_) (fun cdv A outer s H vs Q E hr h => ?_)
  · obtain ⟨a, ns, k, rfl, _⟩ := h
    rfl
  · obtain ⟨a, ns, k, rfl, hS, hl, hk, hk2, hq⟩ := h
    refine ⟨_, (pss_cons (ps_set (i := 2) sc_pool.nd rfl (.inl rfl) (pe_op op_add (pe_op op_mul pe_int (pv 1)) pe_int))
 (pss_cons (ps_set (i := 3) sc_pool.nd rfl (.inl rfl) (pe_op op_add (pe_op op_mul pe_int (pv 1)) pe_int))
 (pss_cons (ps_if (pt_cmpR op_lt (pv 1) (pe_callB call_len_seq (by rfl) T.m_len (by decide +kernel) (pa_cons (pv 0) pa_nil)) (nomark _)) (pss_one (ps_set (i := 2) sc_pool.nd rfl (.inl rfl) (pe_ix ix_list (pv 0) (pv 1) (fun _ _ => rfl)))) pss_nil)
 (pss_cons (ps_if (pt_cmpR op_lt (pe_op op_add (pv 1) pe_int) (pe_callB call_len_seq (by rfl) T.m_len (by decide +kernel) (pa_cons (pv 0) pa_nil)) (nomark _)) (pss_one (ps_set (i := 3) sc_pool.nd rfl (.inl rfl) (pe_ix ix_list (pv 0) (pe_op op_add (pv 1) pe_int) (fun _ _ => rfl)))) pss_nil)
 (pss_one (ps_ret (pe_lst (pa_cons (pv 2) (pa_cons pe_int (pa_cons (pe_cmpR op_ge (pv 2) (pe_op op_pow pe_int pe_int) (nomark _)) (pa_cons (pv 3) pa_nil))))))))))), ?_⟩
    refine Z.w_start (σ' := [some (.ref a), some (.int k), none, none]) rfl ?_
    by_cases h1 : k < ns.length
    · obtain ⟨z1, a1, _⟩ := pick hk h1
      by_cases h2 : k + 1 < ns.length
      · obtain ⟨z2, a2, _⟩ := pick (by omega) h2
        walk_at "w"
        exact hq _ _ (by assumption) ⟨_, _, _, _, rfl⟩
      · walk_at "w"
        exact hq _ _ (by assumption) ⟨_, _, _, _, rfl⟩
    · walk_at "w"
      exact hq _ _ (by assumption) ⟨_, _, _, _, rfl⟩
end
end L

namespace L
open PySem PySem.Spec PyProof.Rows L2 Z
section
variable {P : Program} {w : World} {K : PySem.W.Frag} {mg : Str → Option Value} {base : Heap}
def spWhole : Sp := fun vs H Q _ => ∃ i : Int, vs = [.int i] ∧ Q (.bl true) H
theorem use_whole {i : Int} {H : Hp} {Q : VK} {E : XK} (q : Q (.bl true) H) : spWhole [.int i] H Q E := ⟨i, rfl, q⟩
theorem ok_whole (T : Txt K mg) : FnOk P w K mg base CX0 1 T.f_whole T.fd_whole ["_law_value"] spWhole := by
  refine T.F_whole.ok sc_whole (fun vs H Q E h => ?_) (fun cdv A outer s H vs Q E hr h => ?_)
  · obtain ⟨i, rfl, _⟩ := h
    rfl
  · obtain ⟨i, rfl, hq⟩ := h
    refine ⟨_, (pss_one (ps_ret (pe_and (pe_callB call_isi (by rfl) T.m_isinstance (by decide +kernel) (pa_cons (pv 0) (pa_cons (pe_bltn (v := .ty "int") (by rfl) T.m_int (by decide +kernel) rfl) pa_nil))) (pe_one (pe_not (pe_callB call_isi (by rfl) T.m_isinstance (by decide +kernel) (pa_cons (pv 0) (pa_cons (pe_bltn (v := .ty "bool") (by rfl) T.m_bool (by decide +kernel) rfl) pa_nil)))))))), ?_⟩
    refine Z.w_start (σ' := [some (.int i)]) rfl ?_
    walk_at "w"
    exact hq
end
end L

namespace M
open PySem PySem.Spec PyProof.Rows L2
/-- strictly ascending by absolute values -/
def Asc (ys : List Int) : Prop := ys.Pairwise fun i j => i.natAbs < j.natAbs
theorem asc_uniq : ∀ ys zs : List Int, Asc ys → Asc zs → (∀ x, x ∈ ys ↔ x ∈ zs) → ys = zs
  | [], [], _, _, _ => rfl
  | [], z :: zs, _, _, h => absurd ((h z).mpr List.mem_cons_self) (by simp)
  | y :: ys, [], _, _, h => absurd ((h y).mp List.mem_cons_self) (by simp)
  | y :: ys, z :: zs, hy, hz, h => by
    obtain ⟨hy1, hy2⟩ := List.pairwise_cons.mp hy
    obtain ⟨hz1, hz2⟩ := List.pairwise_cons.mp hz
    have e : y = z := by
      rcases List.mem_cons.mp ((h y).mp List.mem_cons_self) with e | m
      · exact e
      · rcases List.mem_cons.mp ((h z).mpr List.mem_cons_self) with e | m2
        · exact e.symm
        · have a := hz1 y m
          have b := hy1 z m2
          omega
    subst e
    have t : ys = zs := asc_uniq ys zs hy2 hz2 fun x => by
      constructor
      · intro m
        rcases List.mem_cons.mp ((h x).mp (List.mem_cons_of_mem _ m)) with e | m2
        · have := hy1 x m
          rw [e] at this
          omega
        · exact m2
      · intro m
        rcases List.mem_cons.mp ((h x).mpr (List.mem_cons_of_mem _ m)) with e | m2
        · have := hz1 x m
          rw [e] at this
          omega
        · exact m2
    rw [t]
def Clash (ls : List Int) : Prop := ∃ l ∈ ls, -l ∈ ls
/-- the clause of a list -/
def ClOf (ls ys : List Int) : Prop := Asc ys ∧ ∀ x, x ∈ ys ↔ x ∈ ls
/-- nondecreasing and without a clash and twins -/
theorem asc_of {ys : List Int} (h : ys.Pairwise fun i j => i.natAbs ≤ j.natAbs) (hn : ys.Nodup) (hc : ¬ Clash ys) : Asc ys := by
  unfold Asc
  have h2 := h.and hn
  refine List.Pairwise.imp_of_mem ?_ h2
  intro a b ha hb ⟨h1, h3⟩
  rcases Nat.lt_or_ge a.natAbs b.natAbs with h4 | h4
  · exact h4
  · exfalso
    have : a = b ∨ a = -b := by omega
    rcases this with e | e
    · exact h3 e
    · exact hc ⟨b, hb, by rw [← e]; exact ha⟩
/-- a dict of kept ints -/
def kd (ks : List Int) : List (Key × V) := ks.map fun k => (Sum.inl k, V.bl true)
theorem kd_get (ks : List Int) (x : Int) : (valV (kd ks) (Sum.inl x)).isSome = decide (x ∈ ks) := by
  rw [← valV_any]
  unfold kd
  rw [List.any_map]
  induction ks with
  | nil => rfl
  | cons k r ih =>
    rw [List.any_cons, ih]
    simp only [Function.comp, List.mem_cons]
    by_cases h : k = x
    · subst h; simp
    · have h' : ¬ (Sum.inl k : Key) = Sum.inl x := fun z => h (Sum.inl.inj z)
      have h'' : ¬ x = k := fun z => h z.symm
      simp [h', h'']
theorem kd_keys (ks : List Int) : (kd ks).map (·.1) = ks.map Sum.inl := by
  unfold kd
  rw [List.map_map]
  rfl
theorem kd_len (ks : List Int) : (kd ks).length = ks.length := by
  unfold kd
  rw [List.length_map]
theorem kd_put (ks : List Int) (x : Int) : putK (kd ks) (Sum.inl x) (.bl true) = kd (if x ∈ ks then ks else ks ++ [x]) := by
  by_cases h : x ∈ ks
  · rw [if_pos h]
    unfold putK
    have e : (valV (kd ks) (Sum.inl x)).isSome = true := by rw [kd_get]; exact decide_eq_true h
    rw [valV_any, if_pos e]
    unfold kd
    rw [List.map_map]
    refine List.map_congr_left fun k _ => ?_
    simp only [Function.comp]
    split <;> rfl
  · rw [if_neg h, putK_new]
    · unfold kd
      rw [List.map_append]
      rfl
    · have e : (valV (kd ks) (Sum.inl x)).isSome = false := by rw [kd_get]; exact decide_eq_false h
      exact Option.isNone_iff_eq_none.mp (by rw [← Option.not_isSome, e]; rfl)
theorem inV_int (x : Int) (ls : List Int) : inV (.int x) (ls.map V.int) = decide (x ∈ ls) := by
  unfold inV
  rw [List.any_map]
  induction ls with
  | nil => rfl
  | cons k r ih =>
    rw [List.any_cons, ih]
    have e : eqV (.int k) (.int x) = decide (k = x) := by
      first | rfl | simp [eqV]
    simp only [Function.comp, e, List.mem_cons]
    by_cases h : k = x
    · subst h; simp
    · have h'' : ¬ x = k := fun z => h z.symm
      simp [h, h'']
theorem flat_ints (ls : List Int) : (ls.map V.int).all flatV = true := by
  rw [List.all_map]
  exact List.all_eq_true.mpr fun _ _ => rfl
/-- what is kept so far: the taken ones, each once, without a clash -/
def KeptI (ls : List Int) (i : Nat) (ks : List Int) : Prop := ks.Nodup ∧ (∀ x, x ∈ ks ↔ x ∈ ls.take i) ∧ ¬ Clash ks ∧ ks.length ≤ i
theorem kept_zero (ls : List Int) : KeptI ls 0 [] := ⟨List.nodup_nil, fun x => by simp, fun ⟨_, h, _⟩ => by simp at h, Nat.le_refl _⟩
theorem kept_next {ls ks : List Int} {i : Nat} {l : Int} (h : KeptI ls i ks) (hl : ls[i]? = some l) (h0 : l ≠ 0) (hc : -l ∉ ks) : KeptI ls (i + 1) (if l ∈ ks then ks else ks ++ [l]) := by
  obtain ⟨h1, h2, h3, h4⟩ := h
  have ht : ls.take (i + 1) = ls.take i ++ [l] := by rw [List.take_add_one, hl]; rfl
  by_cases hm : l ∈ ks
  · rw [if_pos hm]
    refine ⟨h1, fun x => ?_, h3, by omega⟩
    rw [ht, List.mem_append, h2 x]
    constructor
    · exact fun z => .inl z
    · rintro (z | z)
      · exact z
      · rw [List.mem_singleton.mp z]
        exact (h2 l).mp hm
  · rw [if_neg hm]
    refine ⟨?_, fun x => by rw [ht, List.mem_append, List.mem_append, h2 x], ?_, by rw [List.length_append, List.length_singleton]; omega⟩
    · rw [List.nodup_append]
      refine ⟨h1, List.nodup_cons.mpr ⟨by simp, List.nodup_nil⟩, fun a ha b hb e => ?_⟩
      rw [List.mem_singleton.mp hb] at e
      exact hm (e ▸ ha)
    · rintro ⟨x, hx, hx2⟩
      rcases List.mem_append.mp hx with a | a <;> rcases List.mem_append.mp hx2 with b | b
      · exact h3 ⟨x, a, b⟩
      · have e := List.mem_singleton.mp b
        have : x = -l := by omega
        rw [this] at a
        exact hc a
      · rw [List.mem_singleton.mp a] at b
        exact hc b
      · have e1 := List.mem_singleton.mp a
        have e2 := List.mem_singleton.mp b
        omega
end M
namespace M
open PySem PySem.Spec PyProof.Rows L2
/-- the due so far, by the sizes that were looked at -/
def DueI (ls ns : List Int) (i : Nat) (D : List Int) : Prop := Asc D ∧ (∀ x, x ∈ D ↔ x ∈ ls ∧ (x.natAbs : Int) ∈ ns.take i) ∧ D.length ≤ i
theorem due_zero (ls ns : List Int) : DueI ls ns 0 [] := ⟨List.Pairwise.nil, fun x => by simp, Nat.le_refl _⟩
theorem due_next {ls ns D : List Int} {i : Nat} {s lit : Int} (h : DueI ls ns i D) (hs : ns.Pairwise (· ≤ ·)) (hi : ns[i]? = some s) (hn : ∀ x ∈ ls, -x ∉ ls) (hl : lit ∈ ls) (ha : (lit.natAbs : Int) = s) :
    DueI ls ns (i + 1) (if lit ∈ D then D else D ++ [lit]) := by
  obtain ⟨h1, h2, h3⟩ := h
  have ht : ns.take (i + 1) = ns.take i ++ [s] := by rw [List.take_add_one, hi]; rfl
  have one : ∀ x ∈ ls, (x.natAbs : Int) = s → x = lit := by
    intro x hx e
    have : x = lit ∨ x = -lit := by omega
    rcases this with e | e
    · exact e
    · rw [e] at hx
      exact absurd hx (hn lit hl)
  have mem : ∀ x, (x ∈ ls ∧ (x.natAbs : Int) ∈ ns.take (i + 1)) ↔ (x ∈ D ∨ x = lit) := by
    intro x
    rw [ht, List.mem_append, List.mem_singleton, h2 x]
    constructor
    · rintro ⟨a, b | b⟩
      · exact .inl ⟨a, b⟩
      · exact .inr (one x a b)
    · rintro (⟨a, b⟩ | b)
      · exact ⟨a, .inl b⟩
      · rw [b]
        exact ⟨hl, .inr ha⟩
  by_cases hm : lit ∈ D
  · rw [if_pos hm]
    refine ⟨h1, fun x => ?_, by omega⟩
    rw [mem]
    constructor
    · exact .inl
    · rintro (a | a)
      · exact a
      · rw [a]
        exact hm
  · rw [if_neg hm]
    refine ⟨?_, fun x => ?_, by rw [List.length_append, List.length_singleton]; omega⟩
    · unfold Asc
      rw [List.pairwise_append]
      refine ⟨h1, List.pairwise_singleton _ _, fun x hx y hy => ?_⟩
      rw [List.mem_singleton.mp hy]
      obtain ⟨a, b⟩ := (h2 x).mp hx
      have p := hs.sublist (List.take_sublist (i + 1) ns)
      rw [ht, List.pairwise_append] at p
      have le := p.2.2 _ b s (List.mem_singleton.mpr rfl)
      have ne : (x.natAbs : Int) ≠ s := by
        intro e
        exact hm ((one x a e) ▸ hx)
      omega
    · rw [mem, List.mem_append, List.mem_singleton]
theorem due_end {ls ns D : List Int} (h : DueI ls ns ns.length D) (hp : ns.Perm (ls.map fun l : Int => (l.natAbs : Int))) : ClOf ls D := by
  refine ⟨h.1, fun x => ?_⟩
  rw [h.2.1, List.take_length]
  constructor
  · exact fun z => z.1
  · exact fun z => ⟨z, hp.mem_iff.mpr (List.mem_map.mpr ⟨x, z, rfl⟩)⟩
end M

namespace L
open PySem PySem.Spec PyProof.Rows L2 Z DT
/-! heaps: what stays -/
/-- all but lists stay -/
def Mo (H H' : Hp) : Prop := ∀ b x, (∀ l, x ≠ HO.lst l) → H b = some x → H' b = some x
/-- all but lists and dicts stay -/
def Tu (H H' : Hp) : Prop := ∀ b x, (∀ l, x ≠ HO.lst l) → (∀ l, x ≠ HO.dK l) → H b = some x → H' b = some x
section
variable {H H' H1 H2 : Hp} {p q d : Addr} {o : HO}
theorem Mo.refl (H : Hp) : Mo H H := fun _ _ _ e => e
theorem Mo.trans (a : Mo H H1) (b : Mo H1 H2) : Mo H H2 := fun c x n e => b c x n (a c x n e)
theorem Mo.of (s : Same H H') : Mo H H' := fun b x _ e => s b x e
theorem Mo.new (m : Mo H H') (h : H' p = none) : Mo H (upd H' p o) := fun b x n e => by
  rw [upd_ne (ne_of_none (m b x n e) h)]
  exact m b x n e
theorem Mo.own (m : Mo H H') (h : H p = none) : Mo H (upd H' p o) := fun b x n e => by
  rw [upd_ne (ne_of_none e h)]
  exact m b x n e
theorem Mo.lst {l : List V} (m : Mo H H') (h : H p = some (.lst l)) : Mo H (upd H' p o) := fun b x n e => by
  rw [upd_ne (fun z => by subst z; rw [h] at e; exact n _ (Option.some.inj e).symm)]
  exact m b x n e
theorem Tu.of (m : Mo H H') : Tu H H' := fun b x n _ e => m b x n e
theorem Tu.ofS (m : Same H H') : Tu H H' := fun b x _ _ e => m b x e
theorem Tu.trans (a : Tu H H1) (b : Tu H1 H2) : Tu H H2 := fun c x n n2 e => b c x n n2 (a c x n n2 e)
theorem Tu.dict {kvs : List (Key × V)} (h : H d = some (.dK kvs)) : Tu H (upd H d o) := fun b x n n2 e => by
  rw [upd_ne (fun z => by subst z; rw [h] at e; exact n2 _ (Option.some.inj e).symm)]
  exact e
def PoolAt (H : Hp) (q : Addr) : Prop := ∃ o, H q = some o ∧ IsPool o
structure PX (q : Addr) (H H' : Hp) : Prop where
  mo : Mo H H'
  pl : PoolAt H' q
  sx : ∀ b x, b ≠ q → H b = some x → H' b = some x
theorem PX.trans (a : PX q H H1) (b : PX q H1 H2) : PX q H H2 := ⟨a.1.trans b.1, b.2, fun c x n e => b.3 c x n (a.3 c x n e)⟩
theorem PoolAt.same (h : PoolAt H q) (s : Same H H') : PoolAt H' q := by
  obtain ⟨o, h1, h2⟩ := h
  exact ⟨o, s _ _ h1, h2⟩
theorem PX.same (a : PX q H H1) (b : Same H1 H2) : PX q H H2 := ⟨a.1.trans (.of b), a.2.same b, fun c x n e => b c x (a.3 c x n e)⟩
theorem PX.refl (h : PoolAt H q) : PX q H H := ⟨.refl H, h, fun _ _ _ e => e⟩
theorem PX.new (a : PX q H H1) (h : H1 p = none) : PX q H (upd H1 p o) := a.same (same_of (Same.refl _) h)
theorem PX.take (h : PoolAt H q) (hp : IsPool o) : PX q H (upd H q o) := by
  obtain ⟨o', h1, c, k, b, s, rfl⟩ := h
  exact ⟨(Mo.refl H).lst h1, ⟨o, upd_same, hp⟩, fun b x n e => by rw [upd_ne n]; exact e⟩
theorem PX.dict (a : PX q H H1) {kvs : List (Key × V)} {o2 : HO} (h : H d = none) (h1 : H1 d = some (.dK kvs)) (e : o2 = o2) : PX q H (upd H1 d o2) := by
  refine ⟨a.1.own h, ?_, fun b x n e => by rw [upd_ne (ne_of_none e h)]; exact a.3 b x n e⟩
  obtain ⟨o', h2, hp⟩ := a.2
  refine ⟨o', ?_, hp⟩
  rw [upd_ne]
  · exact h2
  · rintro rfl
    rw [h2] at h1
    obtain ⟨c, k, b, s, rfl⟩ := hp
    cases h1
theorem PX.own (h : H q = none) (a : PX q (upd H q o) H') : Same H H' := fun b x e => a.3 b x (ne_of_none e h) (by rw [upd_ne (ne_of_none e h)]; exact e)
end
section
variable {K : PySem.W.Frag} {H H' : Hp}
theorem sqT_tu {a : Addr} {xs : List V} (h : SqT K H a xs) (s : Tu H H') : SqT K H' a xs := by
  rcases h with (h | ⟨o, h⟩) | h
  · exact .inl (.inl (s _ _ (fun l e => by cases e) (fun l e => by cases e) h))
  · exact .inl (.inr ⟨o, s _ _ (fun l e => by cases e) (fun l e => by cases e) h⟩)
  · exact .inr h
theorem w_tdget {td ty : TE} {σ : L2.St} {Q : VK} (h : td σ H fun x H1 => ty σ H1 fun y H2 => ∃ a v, x = .ref a ∧ DGet H2 a y (some v) ∧ Q v H2) : tDGet td ty σ H Q := h
theorem w_tdget2 {td ty tx : TE} {σ : L2.St} {Q : VK} (h : td σ H fun x H1 => ∃ a, x = .ref a ∧ IsD H1 a ∧ ty σ H1 fun y H2 => tx σ H2 fun z H3 => ∃ o, DGet H3 a y o ∧ Q (o.getD z) H3) : tDGet2 td ty tx σ H Q := h
theorem seqIf {tt : TT} {t t' u : TS} {D : Ends} {σ : L2.St} (k : L2.St → Hp → Prop) (h : ∀ R : L2.St → Hp → Prop, (∀ σ' H', k σ' H' → R σ' H') → tIfS tt t t' { D with nx := R } σ H) (hk : ∀ σ' H', k σ' H' → u D σ' H') : tSeq (tIfS tt t t') u D σ H := h (u D) hk
theorem seqAnd {ta tb : TE} {g : TG} {u : TS} {D : Ends} {σ : L2.St} (k : V → Hp → Prop) (h : ∀ Q : VK, (∀ x H1, k x H1 → Q x H1) → tAndV ta tb σ H Q) (hk : ∀ x H1, k x H1 → g x σ H1 (u D)) : tSeq (tAsg (tAndV ta tb) g) u D σ H := h _ hk
end
end L
namespace L
open PySem PySem.Spec PyProof.Rows L2 Z DT
theorem PX.refl' {q : Addr} {H H' : Hp} (h : PX q H H') : PoolAt H' q := h.2
section
variable {P : Program} {w : World} {K : PySem.W.Frag} {mg : Str → Option Value} {base : Heap}
theorem tyx_T {H : Hp} {a : Addr} {xs : List V} (h : SqT K H a xs) : TyX K H (.ref a) (.type "tuple") := by
  rcases h with (h | ⟨o, h⟩) | ⟨o, its, n, h, c, _⟩
  · exact .base (.tup h)
  · exact .fTuple h
  · exact .kTuple h c
theorem w_isiT_T {H : Hp} {p : Addr} {xs : List V} {Q : VK} (h : SqT K H p xs) (q : Q (.bl true) H) : rIsi K [.ref p, .ty "tuple"] H Q := w_isi (.ty _) (tyx_T h) (kit_ty (by decide +kernel)) q
theorem use_takeP {q : Addr} {n : Int} {H : Hp} {Q : VK} {E : XK} (h : PoolAt H q) (h1 : 0 < n) (h2 : n < 4611686018427387904) (hq : ∀ r H', PX q H H' → 0 ≤ r → r < n → Q (.int r) H') : spTake [.ref q, .int n] H Q E := by
  obtain ⟨o, ho, hp⟩ := id h
  exact ⟨q, o, n, rfl, ho, hp, h1, h2, fun r o' a b c => hq r _ (.take h c) a b⟩
end
end L

namespace X2
open PySem PySem.Spec PyProof.Rows L2
theorem w_ost1 {K : PySem.W.Frag} {σ : L2.St} {H : Hp} {D : Ends} {f : Str} {a C : Addr} {y : V} {j k : Nat} (e1 : σ[k]? = some (some y)) (e2 : σ[j]? = some (some (.ref a))) (T : OexC K C) (no : PySem.W.findIn K (.ref C) f = some none) (h : H a = some (exo a C none)) (q : ∀ dx, H dx = none → dx ≠ a → D.nx σ (upd (upd H dx (exd dx [(f, y)])) a (exo a C (some dx)))) :
    tOst K f (tVar j) (tVar k) D σ H := ⟨y, e1, .ref a, e2, a, C, rfl, T, no, .inl ⟨h, q⟩⟩
end X2
namespace X2
open PySem PySem.Spec PyProof.Rows L2
open _root_.SX (S S_len S_cat)
section
variable {σ : L2.St} {H : Hp} {Q : VK} {te t : TE} {ts : List TE} {a m : List Nat} {R : Str → Hp → Prop}
def rFmt : V → Hp → VK → Prop := fun x H1 Q => (∃ y : Str, x = .str y ∧ y.length ≤ sizeLine ∧ Q (.str y) H1) ∨ ∃ i : Int, x = .int i ∧ i.natAbs.log2 < 1920 ∧ Q (.str (toString i)) H1
theorem w_fmt (h : te σ H fun x H1 => rFmt x H1 Q) : tFmt te σ H Q := h
theorem use_fmt (hl : m.length ≤ 100000) (q : Q (.str (S m)) H) : rFmt (.str (S m)) H Q := .inl ⟨_, rfl, by rw [S_len]; exact Nat.le_trans hl (by decide), q⟩
def rJ (ts : List TE) (acc : Str) (σ : L2.St) : V → Hp → (Str → Hp → Prop) → Prop := fun x H1 R => ∃ y : Str, x = .str y ∧ (acc ++ y).length ≤ sizeLine ∧ tJs ts (acc ++ y) σ H1 R
theorem w_j0 (h : tJs ts (S []) σ H R) : tJs ts Str.empty σ H R := h
theorem w_j1 {acc : Str} (h : t σ H fun x H1 => rJ ts acc σ x H1 R) : tJs (t :: ts) acc σ H R := h
theorem use_j (hl : (a ++ m).length ≤ 100000) (h : tJs ts (S (a ++ m)) σ H R) : rJ ts (S a) σ (.str (S m)) H R := ⟨_, rfl, by rw [S_cat, S_len]; exact Nat.le_trans hl (by decide), by rw [S_cat]; exact h⟩
theorem w_fmtI1 {i : Int} {j : Nat} (e : σ[j]? = some (some (.int i))) (hi : i.natAbs < 10 ^ 60) (q : Q (.str (S (MT.nz i))) H) : tFmtR (tVar j) σ H Q := w_fmtI e (log_int hi) (by rw [← MT.S_nz] at q; exact q)
theorem nz_len60 {i : Int} (hi : i.natAbs < 10 ^ 60) : (MT.nz i).length ≤ 61 := by
  have k := TL.numL_len (n := i.natAbs) (k := 60) (by decide) hi
  unfold MT.nz
  split
  · rw [List.length_cons]
    omega
  · omega
theorem w_jn1 {acc : Str} (h : R acc H) : tJs [] acc σ H R := h
end
end X2

namespace X2
open PySem PySem.Spec PyProof.Rows L2
/-- C(e, ..) as what is raised, told with its context, where nothing is handled -/
theorem pmkN {X : Cx} {CW : CXT} {x : Str} {e : Expr} {es : List Expr} {ta : TA} {p pos : Pos} {C fI : Addr} {k : Nat} {fd : FuncData} {ps : List Str} {sp : Sp} (T : OexC X.K C)
    (ic : PySem.W.findIn X.K (.ref C) "__init__" = some (some (.ref fI))) (ti : PySem.W.typeIn X.K (.ref fI) = some (.type "function"))
    (G : FnOk X.prog X.w X.K X.mg X.base CW k fI fd ps sp) (room : Room (k + 1) X.A) (bi : Binds X.K fd ps []) (pass : Passes CW X (fun _ _ _ => False)) (gl : Gl X x) (mm : X.mg x = some (.ref C)) (ha : PA X (e :: es) ta)
    (hdb : (x == ("__debug__" : Str)) = false := by decide) (he : starEach (e :: es) X.env = (false, eval e X.env) :: starEach es X.env := by rfl) (hpl : (backTo pos (starEach es X.env)).any (·.1) = false := by rfl) :
    L2N.PMk X (.Call (.Name x p) (e :: es) [] pos) (tMkO C sp [] ta) := by
  intro pins s σ H R J q0
  obtain ⟨c1, c2, c3, c4, bm, c5, c6, c7, c8, c9, c10, c11, c12, c13, c14, hC, hbm⟩ := T.cls
  refine wpAny_Call_Name_kw (ld_glob J gl mm ?_ hdb)
  refine PySem.W.callWith_K (h₀ := X.base) J.ok.mod.kin T.kC (thn (ha.run pos pins s σ H _ J q0) fun args t1 w1 => ?_) he hpl
  obtain ⟨vals, Hs, J1, rel, small, cont⟩ := w1
  refine ⟨J1.kIn, ?_⟩
  show wpAny _ _ (call (.ref C) args) _ _ _
  obtain ⟨hp, gs, dr, tk, os⟩ := t1
  let N := hp.objs.size + 1
  have le : hp.objs.size ≤ N := Nat.le_succ _
  have free : Hs N = none := J1.hok.fresh le
  have wish := cont N free
  let h2 := (hp.push (PySem.W.kdv_tup args)).push (PySem.HandSPX.excO C hp.objs.size)
  have keep : ∀ b o, hp.get? b = some o → h2.get? b = some o := fun b o z => Heap.get?_push_of_some _ (Heap.get?_push_of_some _ z)
  have made : h2.get? N = some (PySem.HandSPX.excO C hp.objs.size) := by
    show Heap.get? (Heap.push (hp.push (PySem.W.kdv_tup args)) (PySem.HandSPX.excO C hp.objs.size)) (hp.objs.size + 1) = _
    heap_get
  have J2 : Inv X pins σ (upd Hs N (exo N C none)) ⟨h2, gs, dr, tk, os⟩ := J1.laid (t' := tk) (a := N) (o := exo N C none) (h' := h2) keep le (exo_ok made)
  have rel2 : Vals (V.ref N :: (vals ++ [])) (Value.ref N :: (args ++ [])) := .cons rfl (rel.append .nil)
  have cnt : (Value.ref N :: args ++ []).length = ps.length := by
    have z := rel2.length
    rw [G.len _ _ _ _ wish] at z
    exact z.symm
  have fit : args.length ≤ sizeLine := by
    rw [← Paired.length rel, sizeLine_eq]
    omega
  have run := G.run _ X.stack _ _ ⟨Value.ref N :: args, []⟩ (Value.ref N :: (args ++ [])) _ _ (fun _ _ _ => False) (room.make C args []) (J2.env0.make C args []) (show BindsTo _ fd ⟨Value.ref N :: args, []⟩ (ps.zip (Value.ref N :: (args ++ []))) from bi _ (Value.ref N :: args) J2.kIn cnt) rel2 wish
  refine wpAny_call (PySem.HandSPX.call_own F.excBase_ValueError (fun Y => PySem.HandSPX.refsVE_contains Y bm hbm) (J1.kIn _ _ hC) (PySem.W.looks_findIn J1.kIn ic) (fun self => PySem.W.bind_fn J1.kIn self ti) fit (codeAny_mono run fun r t2 out => ?_))
  cases r with
  | error er => exact pass pins σ _ _ er t2 J2 out
  | ok fl =>
    cases fl with
    | ret u =>
      obtain ⟨v, H2, os2, bare2, un2, ok2, rv, ev, d, fs, ea, ed, hd1, q2⟩ := out
      subst ev
      obtain ⟨hh, g2, d2, t2', os'⟩ := t2
      refine ⟨rv, ?_⟩
      obtain ⟨t0, G0, Jn, kG, gone, there, na⟩ := mk_end0 (d2 := d2) (t2 := t2') J1 le keep un2 ok2 os2 bare2 ea ed hd1
      exact ⟨N, _, _, ⟨G0, g2, d2, t2', os'⟩, _, .ref C, some d, rfl, Jn, kG, gone, there, ⟨rfl, rfl, fun vs z => by cases z; rfl⟩, rfl, rfl, na, rfl, bare2, raises_own T.exC T.tyC, q2⟩
    | next => exact out.elim
    | brk => exact out.elim
    | cont => exact out.elim
/-- in a suite over an exception whose context is told -/
theorem hot_of {X : Cx} {a : Addr} {oe : Obj} {cls : Value} {d : Option Addr} {pn : List (Addr × Obj)} (hz : L2N.Zn cls d oe) (hf : ∃ vs, oe.data = .fields vs) : L2H.HotC (X.suite a ((a, oe) :: pn)) := by
  obtain ⟨vs, hv⟩ := hf
  exact ⟨(a, oe), ⟨rfl, vs, hv, hz.2.2 vs hv⟩, List.mem_cons_self⟩
end X2
namespace X2
open PySem PySem.Spec PyProof.Rows L2
section
variable {P : Program} {w : World} {K : PySem.W.Frag} {mg : Str → Option Value} {base : Heap} {x qual : Str} {st : Stmt} {f : Addr} {fd : FuncData} {N ps : List Str} {k : Nat} {sp : Sp}
/-- a def that may raise, what flies told with its context -/
theorem okN (F : Fun K x qual st f fd) (S : FnScope N ps (defScope st)) (len : ∀ vs H Q E, sp vs H Q E → vs.length = ps.length)
    (b : ∀ (cdv : Value) (A : Around) (outer : List Env) (s : Shared) (H : Hp) (vs : List V) (Q : VK) (E : XK), Room k (A.deeper (envOfC qual (defScope st) s.heap.objs.size f cdv)) → sp vs H Q E → ∃ t, PSs (cxOf (L2N.CX P w) P w K mg base N qual (defScope st) f cdv A outer s H E) (defBody st) t ∧ t { nx := fun _ H' => Q .non H', rt := Q } (start N vs) H) :
    FnOk P w K mg base (L2N.CX P w) (k + 1) f fd ps sp := by
  obtain ⟨_, _, _, _, _, _, _, _, _, rfl, place, code⟩ := F.ex
  exact fn_of place code S len fun A outer s H vs Q E room want => b _ A outer s H vs Q E room want
/-- a def that is called while an exception is handled -/
theorem okH (F : Fun K x qual st f fd) (S : FnScope N ps (defScope st)) (len : ∀ vs H Q E, sp vs H Q E → vs.length = ps.length)
    (b : ∀ (cdv : Value) (A : Around) (outer : List Env) (s : Shared) (H : Hp) (vs : List V) (Q : VK) (E : XK) (p : Addr × Obj), L2H.Hot1 A p → L2H.RoomH k (A.deeper (envOfC qual (defScope st) s.heap.objs.size f cdv)) → sp vs H Q E →
      ∃ t, PSs (L2H.cxH CX0 P w K mg base N qual (defScope st) f cdv A outer s H E p) (defBody st) t ∧ t { nx := fun _ H' => Q .non H', rt := Q } (start N vs) H) : L2H.FnH P w K mg base CX0 (k + 1) f fd ps sp := by
  obtain ⟨_, _, _, _, _, _, _, _, _, rfl, place, code⟩ := F.ex
  exact L2H.fn_ofH place code S len fun A outer s H vs Q E p hot room want => b _ A outer s H vs Q E p hot room want
end
theorem passN {X : Cx} : Passes (L2N.CX X.prog X.w) X E0 := fun _ _ _ _ _ _ _ h => by
  obtain ⟨_, _, _, _, _, _, _, _, _, _, _, _, no⟩ := h
  exact no.elim
theorem takesN {X : Cx} : L2N.Takes X (fun _ _ _ _ => False) := fun _ _ x => by
  obtain ⟨_, _, _, _, _, _, _, _, _, _, _, _, _, _, _, _, no⟩ := x
  exact no.elim
theorem passH {X : Cx} {E : L2.St → XK} : ∀ σ, PassesAt CX0 X σ (E σ) := fun _ _ _ _ _ _ _ h => h.elim
theorem w_callSH {sp : Sp} {E : L2.St → XK} {t1 : TA} {σ : L2.St} {H : Hp} {Q : VK} (h : t1 σ H fun vs H1 => sp vs H1 Q (E σ)) : tCallS sp E t1 σ H Q := h
end X2

local macro_rules | `(tactic| walk_at "w1") => `(tactic| first
  | with_reducible refine X2.w_j0 ?_
  | with_reducible refine X2.w_j1 ?_
  | ((with_reducible refine' X2.use_j ?wh ?_); (case wh => walk_at "len"))
  | with_reducible refine X2.w_jn1 ?_
  | with_reducible refine X2.w_fmt ?_
  | ((with_reducible refine' X2.use_fmt ?wh ?_); (case wh => walk_at "len"))
  | fail "w1")

namespace X2
open PySem PySem.Spec PyProof.Rows L2
theorem roomM {k : Nat} {A : Around} (r : Room k A) (h : Option Value) : L2H.RoomH k (A.mark h) := ⟨r.dp, r.un⟩
theorem passH0 {X : Cx} : ∀ σ : L2.St, PassesAt CX0 X σ E0 := fun _ _ _ _ _ _ _ h => h.elim
end X2

local macro_rules | `(tactic| walk_at "w1") => `(tactic| first
  | ((with_reducible refine' X2.w_xfv ?ws ?wd ?wl ?_); (case ws => exact rfl); (case wd => walk_at "hp"); (case wl => (first | exact rfl | decide | simp)))
  | ((with_reducible refine' MT.w_strI ?wh ?_); (case wh => omega))
  | ((with_reducible refine Z.w_iteNF ?wh ?_); (case wh => exact rfl))
  | ((with_reducible refine Z.w_iteNT ?wh ?_); (case wh => (intro h; cases h; done)))
  | ((with_reducible refine' Z.w_rNe ?wh ?_); (case wh => exact rfl))
  | with_reducible refine X2.w_callSH ?_
  | fail "w1")

namespace L
open PySem PySem.Spec PyProof.Rows L2 Z M
section
variable {P : Program} {w : World} {K : PySem.W.Frag} {mg : Str → Option Value} {base : Heap}
theorem w_fldT {C o dx : Addr} {f : Str} {v : V} {fs : List (Str × V)} {σ : L2.St} {H : Hp} {Q : VK} (hc : Cls K C) (hn : NoAttr K C f) (h1 : H o = some (.ins C dx fs)) (hl : fs.lookup f = some v) (q : Q v H) : tFld K (tVar 0) f (some (.ref o) :: σ) H Q :=
  Z.w_var (v := V.ref o) rfl ⟨o, C, dx, _, _, rfl, h1, hc, hn, hl, q⟩
theorem abs_nat (i : Int) : (if i < 0 then -i else i) = (i.natAbs : Int) := by split <;> omega
theorem w_meth0 {C o dx : Addr} {m : Str} {sp : Sp} {E : XK} {t : TA} {i : Nat} {fs : List (Str × V)} {σ : L2.St} {H : Hp} {Q : VK} (h1 : H o = some (.ins C dx fs)) (hσ : σ[i]? = some (some (.ref o))) (hm : fs.lookup m = none) (q : t σ H fun vs H2 => sp (.ref o :: (vs ++ [])) H2 Q E) : tMeth C m sp [] E (tVar i) t σ H Q :=
  Z.w_var hσ ⟨o, dx, _, rfl, h1, hm, q⟩
theorem w_tdget1 {td ty : TE} {σ : L2.St} {H : Hp} {Q : VK} (h : td σ H fun x H1 => ∃ a, x = .ref a ∧ IsD H1 a ∧ ty σ H1 fun y H2 => ∃ o, DGet H2 a y o ∧ Q (o.getD .non) H2) : tDGet1 td ty σ H Q := h
theorem ne_ins {H : Hp} {o b C dx : Addr} {fs : List (Str × V)} {u : HO} (h1 : H o = some (.ins C dx fs)) (h2 : H b = some u) (h : ∀ C dx fs, u ≠ .ins C dx fs) : o ≠ b := fun e => by
  subst e
  rw [h1] at h2
  exact h _ _ _ (Option.some.inj h2).symm
theorem ne_ld {H : Hp} {a b : Addr} {xs : List V} {kvs : List (Key × V)} (h1 : H a = some (.lst xs)) (h2 : H b = some (.dK kvs)) : a ≠ b := fun e => by
  subst e
  rw [h1] at h2
  cases h2
theorem w_fldaug {ta tv : TE} {rd : V → V → Hp → VK → Prop} {f : Str} {D : Ends} {σ : L2.St} {H : Hp} (h : ta σ H fun x H1 => ∃ a C dx fs v, x = .ref a ∧ H1 a = some (.ins C dx fs) ∧ Cls K C ∧ NoAttr K C f ∧ fs.lookup f = some v ∧
  tv σ H1 fun y H2 => rd v y H2 fun z H3 => ∃ dx' fs', H3 a = some (.ins C dx' fs') ∧ fs'.length < 1000 ∧ D.nx σ (upd H3 a (.ins C dx' (putF f z fs')))) : sFldAug K ta tv rd f D σ H := h
theorem lst_eq {H : Hp} {a : Addr} {xs ys : List V} (h : H a = some (.lst xs)) (e : xs = ys) : H a = some (.lst ys) := e ▸ h
theorem dK_eq {H : Hp} {a : Addr} {xs ys : List (Key × V)} (h : H a = some (.dK xs)) (e : xs = ys) : H a = some (.dK ys) := e ▸ h
theorem upd_self {H : Hp} {a : Addr} {o : HO} (h : H a = some o) : upd H a o = H := by
  funext b
  by_cases e : b = a
  · rw [e, upd_same, h]
  · rw [upd_ne e]
theorem fresh_of1 {H H' : Hp} {p : Addr} (s : Same H H') (h : H' p = none) : H p = none := by
  cases e : H p with
  | none => rfl
  | some o => rw [s _ _ e] at h; cases h
theorem cut_from {xs : List V} {s : Nat} (h : s ≤ xs.length) : cutV xs (some (s : Int)) none = xs.drop s := by
  unfold cutV
  rw [HT.sIx_nat, HT.sIx_none, Nat.min_eq_left h, List.take_of_length_le (by rw [List.length_drop]; exact Nat.le_refl _)]
theorem cut_to {xs : List V} {s : Nat} (h : s ≤ xs.length) : cutV xs none (some (s : Int)) = xs.take s := by
  unfold cutV
  rw [HT.sIx_nat, HT.sIx_none, Nat.min_eq_left h, List.drop_zero, Nat.sub_zero]
theorem w_slice {r : V → Option Int → Option Int → Hp → VK → Prop} {te : TE} {tl th : TO} {σ : L2.St} {H : Hp} {Q : VK} (h : te σ H fun x H1 => tl σ H1 fun l H2 => th σ H2 fun u H3 => r x l u H3 Q) : L2.tSl r te tl th σ H Q := h
theorem w_nopart {σ : L2.St} {H : Hp} {R : Option Int → Hp → Prop} (h : R none H) : tNoPart σ H R := h
theorem w_part {t : TE} {σ : L2.St} {H : Hp} {R : Option Int → Hp → Prop} (h : t σ H fun x H1 => ∃ i, x = .int i ∧ R (some i) H1) : tPart t σ H R := h
theorem w_slFrom {a : Addr} {xs : List V} {s : Nat} {H : Hp} {Q : VK} (h : SqL K H a xs) (hs : s ≤ xs.length) (q : ∀ p, H p = none → Q (.ref p) (upd H p (.lst (xs.drop s)))) : rSlL K (.ref a) (some (s : Int)) none H Q :=
  ⟨a, xs, rfl, h, fun p hp => by rw [cut_from hs]; exact q p hp⟩
theorem w_slTo {a : Addr} {xs : List V} {s : Nat} {H : Hp} {Q : VK} (h : SqL K H a xs) (hs : s ≤ xs.length) (q : ∀ p, H p = none → Q (.ref p) (upd H p (.lst (xs.take s)))) : rSlL K (.ref a) none (some (s : Int)) H Q :=
  ⟨a, xs, rfl, h, fun p hp => by rw [cut_to hs]; exact q p hp⟩
theorem w_ddel {td ty : TE} {D : Ends} {σ : L2.St} {H : Hp} (h : td σ H fun x H1 => ty σ H1 fun y H2 => ∃ a kvs k, x = .ref a ∧ H2 a = some (.dK kvs) ∧ y = kV k ∧ (valV kvs k).isSome = true ∧ D.nx σ (upd H2 a (.dK (dropK kvs k)))) : sDDel td ty D σ H := h
structure InitSt (H0 Hc : Hp) (o C dx : Addr) (fs : List (Str × V)) (os : List (Addr × HO)) : Prop where
  sm : Same H0 Hc
  ob : Hc o = some (.ins C dx fs)
  all : ∀ p ∈ os, Hc p.1 = some p.2 ∧ H0 p.1 = none ∧ p.1 ≠ o
  nd : (os.map (·.1)).Nodup
theorem InitSt.step {H0 Hc : Hp} {o C dx l : Addr} {u : HO} {fs fs' : List (Str × V)} {os : List (Addr × HO)} (h : InitSt H0 Hc o C dx fs os) (h0 : H0 o = none) (hl : Hc l = none) : InitSt H0 (upd (upd Hc l u) o (.ins C dx fs')) o C dx fs' (os ++ [(l, u)]) := by
  have nl : l ≠ o := fun e => by subst e; rw [h.ob] at hl; cases hl
  have fl := fresh_of1 h.sm hl
  refine ⟨same_mut (same_of h.sm hl) h0, upd_same, fun p hp => ?_, ?_⟩
  · rcases List.mem_append.mp hp with m | m
    · obtain ⟨g1, g2, g3⟩ := h.all p m
      exact ⟨by rw [upd_ne g3]; exact upd_of hl g1, g2, g3⟩
    · obtain rfl := List.mem_singleton.mp m
      exact ⟨by rw [upd_ne nl, upd_same], fl, nl⟩
  · rw [List.map_append, List.nodup_append]
    refine ⟨h.nd, by simp, fun a ha b hb e => ?_⟩
    obtain rfl : b = l := by simpa using hb
    subst e
    obtain ⟨p, hp, rfl⟩ := List.mem_map.mp ha
    rw [(h.all p hp).1] at hl
    cases hl
theorem w_fld {ta tv : TE} {f : Str} {D : Ends} {σ : L2.St} {H : Hp} (h : tv σ H fun y H1 => ta σ H1 fun x H2 => ∃ a C dx fs, x = .ref a ∧ H2 a = some (.ins C dx fs) ∧ Cls K C ∧ NoAttr K C f ∧ fs.length < 1000 ∧ D.nx σ (upd H2 a (.ins C dx (putF f y fs)))) : sFld K ta tv f D σ H := h
theorem putF_new {f : Str} {v : V} : ∀ {fs : List (Str × V)}, f ∉ fs.map (·.1) → putF f v fs = fs ++ [(f, v)]
  | [], _ => rfl
  | (g, x) :: r, h => by
    rw [List.map_cons, List.mem_cons, not_or] at h
    show (if g = f then _ else _) = _
    rw [if_neg (fun e => h.1 e.symm), putF_new h.2]
    rfl
theorem w_initL {C o dx : Addr} {f : Str} {D : Ends} {σ : L2.St} {H0 H : Hp} {fs : List (Str × V)} {os : List (Addr × HO)} (h : InitSt H0 H o C dx fs os) (h0 : H0 o = none) (hc : Cls K C) (hn : NoAttr K C f) (nm : List Str) (e : fs.map (·.1) = nm) (hf : f ∉ nm) (hl : fs.length < 1000) (q : ∀ l H', InitSt H0 H' o C dx (fs ++ [(f, .ref l)]) (os ++ [(l, .lst [])]) → D.nx (some (.ref o) :: σ) H') : sFld K (tVar 0) (tLst tNil) f D (some (.ref o) :: σ) H := by
  refine w_fld (Z.w_lst (Z.w_nil ⟨Nat.zero_le _, fun l hl' => Z.w_var (v := V.ref o) rfl ⟨o, C, dx, fs, rfl, upd_of hl' h.ob, hc, hn, hl, by rw [putF_new (by rw [e]; exact hf)]; exact q l _ (h.step h0 hl')⟩⟩))
theorem w_initD {C o dx : Addr} {f : Str} {D : Ends} {σ : L2.St} {H0 H : Hp} {fs : List (Str × V)} {os : List (Addr × HO)} (h : InitSt H0 H o C dx fs os) (h0 : H0 o = none) (hc : Cls K C) (hn : NoAttr K C f) (nm : List Str) (e : fs.map (·.1) = nm) (hf : f ∉ nm) (hl : fs.length < 1000) (q : ∀ l H', InitSt H0 H' o C dx (fs ++ [(f, .ref l)]) (os ++ [(l, .dK [])]) → D.nx (some (.ref o) :: σ) H') : sFld K (tVar 0) tDNewK f D (some (.ref o) :: σ) H := by
  refine w_fld (Z.w_dnew fun l hl' => Z.w_var (v := V.ref o) rfl ⟨o, C, dx, fs, rfl, upd_of hl' h.ob, hc, hn, hl, by rw [putF_new (by rw [e]; exact hf)]; exact q l _ (h.step h0 hl')⟩)
theorem w_initC {C o dx : Addr} {f : Str} {v : V} {D : Ends} {σ : L2.St} {H0 H : Hp} {fs : List (Str × V)} {os : List (Addr × HO)} (h : InitSt H0 H o C dx fs os) (h0 : H0 o = none) (hc : Cls K C) (hn : NoAttr K C f) (nm : List Str) (e : fs.map (·.1) = nm) (hf : f ∉ nm) (hl : fs.length < 1000) (q : ∀ H', InitSt H0 H' o C dx (fs ++ [(f, v)]) os → D.nx (some (.ref o) :: σ) H') : sFld K (tVar 0) (tC v) f D (some (.ref o) :: σ) H :=
  w_fld (Z.w_c (Z.w_var (v := V.ref o) rfl ⟨o, C, dx, fs, rfl, h.ob, hc, hn, hl, by rw [putF_new (by rw [e]; exact hf)]; exact q _ ⟨same_mut h.sm h0, upd_same, fun p hp => by
    obtain ⟨g1, g2, g3⟩ := h.all p hp
    exact ⟨by rw [upd_ne g3]; exact g1, g2, g3⟩, h.nd⟩⟩))
theorem putF_nil (f : Str) (v : V) : putF f v [] = [(f, v)] := rfl
theorem fresh_px {q p : Addr} {H H' : Hp} (s : PX q H H') (hq : PoolAt H q) (h : H' p = none) : H p = none := by
  cases e : H p with
  | none => rfl
  | some o =>
    by_cases n : p = q
    · subst n
      obtain ⟨o', h', _⟩ := s.pl
      rw [h'] at h
      cases h
    · rw [s.sx _ _ n e] at h
      cases h
theorem lst_len {ns : List Int} : (ns.map V.int).length = ns.length := List.length_map _
theorem w_make {C : Addr} {sp : Sp} {dvs : List V} {E : XK} {t : TA} {σ : L2.St} {H : Hp} {Q : VK} (h : t σ H fun vs H1 => ∀ x dx, H1 x = none → H1 dx = none → dx ≠ x → sp (.ref x :: (vs ++ dvs)) (upd (upd H1 dx (.own x)) x (.ins C dx [])) (fun v H2 => v = .non ∧ Q (.ref x) H2) E) : tMake C sp dvs E t σ H Q := h
/-- tuples stay -/
def TupS (H H' : Hp) : Prop := ∀ b xs, H b = some (.tup xs) → H' b = some (.tup xs)
theorem TupS.ofM {H H' : Hp} (h : Mo H H') : TupS H H' := fun b xs e => h b _ (fun l z => by cases z) e
theorem TupS.of {H H' : Hp} (h : Same H H') : TupS H H' := fun b xs e => h b _ e
theorem TupS.trans {H H1 H2 : Hp} (a : TupS H H1) (b : TupS H1 H2) : TupS H H2 := fun c xs e => b c xs (a c xs e)
theorem tup_pool {q b : Addr} {xs : List V} {H : Hp} (h : PoolAt H q) (hb : H b = some (.tup xs)) : b ≠ q := by
  rintro rfl
  obtain ⟨o, h1, c, k, d, e, rfl⟩ := h
  rw [h1] at hb
  cases hb
theorem w_dsetd {td ty tx : TE} {σ : L2.St} {H : Hp} {Q : VK} (h : td σ H fun x H1 => ∃ a, x = .ref a ∧ IsD H1 a ∧ ty σ H1 fun y H2 => tx σ H2 fun z H3 => ∃ (kvs : List (Key × V)) (k : Key), H3 a = some (.dK kvs) ∧ y = kV k ∧ kvs.length < sizeLine ∧ (∀ v, valV kvs k = some v → Q v H3) ∧ (valV kvs k = none → Q z (upd H3 a (.dK (putK kvs k z))))) : tDSetd td ty tx σ H Q := h
end
end L

namespace L
open PySem PySem.Spec PyProof.Rows L2 Z M
/-! all but the addresses of S stays -/
def Ch (S : List Addr) (H H' : Hp) : Prop := ∀ b x, b ∉ S → H b = some x → H' b = some x
def NoTup (S : List Addr) (H : Hp) : Prop := ∀ b ∈ S, ∀ ys, H b ≠ some (.tup ys)
theorem Ch.refl (S : List Addr) (H : Hp) : Ch S H H := fun _ _ _ e => e
theorem Ch.of {S : List Addr} {H H' : Hp} (s : Same H H') : Ch S H H' := fun b x _ e => s b x e
theorem Ch.trans {S : List Addr} {H H1 H2 : Hp} (a : Ch S H H1) (b : Ch S H1 H2) : Ch S H H2 := fun c x n e => b c x n (a c x n e)
theorem Ch.sup {S S' : List Addr} {H H1 : Hp} (a : Ch S H H1) (h : ∀ b ∈ S, b ∈ S') : Ch S' H H1 := fun c x n e => a c x (fun z => n (h c z)) e
theorem Ch.put {S : List Addr} {H H1 : Hp} (a : Ch S H H1) {b : Addr} {u : HO} (hb : b ∈ S) : Ch S H (upd H1 b u) := fun c x n e => by rw [upd_ne (fun z => n (by rw [z]; exact hb))]; exact a c x n e
theorem Ch.new {S : List Addr} {H H1 : Hp} (a : Ch S H H1) {p : Addr} {u : HO} (hp : H1 p = none) : Ch S H (upd H1 p u) := fun c x n e => upd_of hp (a c x n e)
theorem Ch.own {S : List Addr} {H H1 : Hp} (a : Ch S H H1) {p : Addr} {u : HO} (hp : H p = none) : Ch S H (upd H1 p u) := fun c x n e => by rw [upd_ne (ne_of_none e hp)]; exact a c x n e
theorem Ch.tup {S : List Addr} {H H1 : Hp} (a : Ch S H H1) (m : NoTup S H) {b : Addr} {ys : List V} (e : H b = some (.tup ys)) : H1 b = some (.tup ys) := a b _ (fun z => m b z ys e) e
theorem Ch.px {S : List Addr} {q : Addr} {H H1 : Hp} (h : PX q H H1) (hq : q ∈ S) : Ch S H H1 := fun b x n e => h.3 b x (fun z => n (z ▸ hq)) e
/-! the object of the signature: its sorts, its functions with their arguments and results -/
structure SgO where
  dx : Addr
  ds : Addr
  df : Addr
def SgO.fs (t : SgO) : List (Str × V) := [("_sorts", .ref t.ds), ("_functions", .ref t.df)]
abbrev FnRow := Str × List Str × Str
/-- what the dict of functions holds at a name -/
def FnV (H : Hp) (o : Option V) (r : Option (List Str × Str)) : Prop := match r with
  | none => o = none
  | some (as, x) => ∃ p a, o = some (.ref p) ∧ H p = some (.tup [.ref a, .str x]) ∧ H a = some (.tup (as.map V.str))
structure SigAt (C : Addr) (H : Hp) (o : Addr) (t : SgO) (ss : List Str) (fs : List FnRow) : Prop where
  obj : H o = some (.ins C t.dx t.fs)
  ne : t.ds ≠ t.df
  so : ∃ ks, H t.ds = some (.dK ks) ∧ (∀ x : Str, (valV ks (Sum.inr x)).isSome = decide (x ∈ ss)) ∧ ks.length ≤ ss.length
  fu : ∃ kf, H t.df = some (.dK kf) ∧ (∀ x : Str, FnV H (valV kf (Sum.inr x)) (fs.lookup x)) ∧ kf.map (·.1) = fs.map fun r => Sum.inr r.1
theorem FnV.some_eq {H : Hp} {o : Option V} {r : Option (List Str × Str)} (h : FnV H o r) : o.isSome = r.isSome := by
  cases r with
  | none => rw [show o = none from h]; rfl
  | some q =>
    obtain ⟨p, a, e, _⟩ := h
    rw [e]
    rfl
theorem FnV.same {H H' : Hp} {o : Option V} {r : Option (List Str × Str)} (h : FnV H o r) (s : ∀ b ys, H b = some (.tup ys) → H' b = some (.tup ys)) : FnV H' o r := by
  cases r with
  | none => exact h
  | some q =>
    obtain ⟨p, a, e, e1, e2⟩ := h
    exact ⟨p, a, e, s _ _ e1, s _ _ e2⟩
theorem SigAt.same {C : Addr} {H H' : Hp} {o : Addr} {t : SgO} {ss : List Str} {fs : List FnRow} (h : SigAt C H o t ss fs) (s : Same H H') : SigAt C H' o t ss fs := by
  obtain ⟨ks, h1, h2⟩ := h.so
  obtain ⟨kf, h3, h4, h5⟩ := h.fu
  exact ⟨s _ _ h.obj, h.ne, ⟨ks, s _ _ h1, h2⟩, kf, s _ _ h3, fun x => (h4 x).same fun b ys e => s _ _ e, h5⟩
theorem SigAt.ch {C : Addr} {S : List Addr} {H H' : Hp} {o : Addr} {t : SgO} {ss : List Str} {fs : List FnRow} (h : SigAt C H o t ss fs) (s : Ch S H H') (m : NoTup S H) (n : ∀ b ∈ S, b ≠ o ∧ b ≠ t.ds ∧ b ≠ t.df) : SigAt C H' o t ss fs := by
  obtain ⟨ks, h1, h2⟩ := h.so
  obtain ⟨kf, h3, h4, h5⟩ := h.fu
  exact ⟨s _ _ (fun z => (n _ z).1 rfl) h.obj, h.ne, ⟨ks, s _ _ (fun z => (n _ z).2.1 rfl) h1, h2⟩, kf, s _ _ (fun z => (n _ z).2.2 rfl) h3, fun x => (h4 x).same fun b ys e => s.tup m e, h5⟩
end L

namespace L
open PySem PySem.Spec PyProof.Rows L2 Z M
section
variable {P : Program} {w : World} {K : PySem.W.Frag} {mg : Str → Option Value} {base : Heap}
def spKnF (C : Addr) : Sp := fun vs H Q _ => ∃ (o : Addr) (t : SgO) (ss : List Str) (fs : List FnRow) (x : Str), vs = [.ref o, .str x] ∧ SigAt C H o t ss fs ∧ Q (.bl (fs.lookup x).isSome) H
theorem ok_knowsF (T : Txt K mg) : FnOk P w K mg base CX0 1 T.f_Signature_knows_function T.fd_Signature_knows_function ["self", "name"] (spKnF T.C_Signature) := by
  refine T.F_Signature_knows_function.ok sc_Signature_knows_function (fun vs H Q E h => ?_) (fun cdv A outer s H vs Q E hr h => ?_)
  · obtain ⟨o, t, ss, fs, x, rfl, _⟩ := h
    rfl
  · obtain ⟨o, t, ss, fs, x, rfl, sg, h⟩ := h
    obtain ⟨kf, hf, hv, _⟩ := sg.fu
    refine ⟨_, (pss_one (ps_ret (pe_cmp (pc_din (hu_of hr) (pv 1) (pe_fld (pv 0) rfl))))), ?_⟩
    refine Z.w_start (σ' := [some (.ref o), some (.str x)]) rfl ?_
    walk_at "w"
    refine w_fldT T.cl_Signature T.n_Signature__functions sg.obj rfl ?_
    refine ⟨t.df, _, rfl, DGet.k (k := Sum.inr x) hf, ?_⟩
    rw [(hv x).some_eq]
    walk_at "w"
    exact h
/-- a name that is declared -/
def spFun (C : Addr) : Sp := fun vs H Q _ => ∃ (o : Addr) (t : SgO) (ss : List Str) (fs : List FnRow) (x : Str) (as : List Str) (r : Str), vs = [.ref o, .str x] ∧ SigAt C H o t ss fs ∧ fs.lookup x = some (as, r) ∧ ∀ p a, H p = some (.tup [.ref a, .str r]) → H a = some (.tup (as.map V.str)) → Q (.ref p) H
theorem ok_fun (T : Txt K mg) : FnOk P w K mg base CX0 1 T.f_Signature_function T.fd_Signature_function ["self", "name"] (spFun T.C_Signature) := by
  refine T.F_Signature_function.ok sc_Signature_function (fun vs H Q E h => ?_) (fun cdv A outer s H vs Q E hr h => ?_)
  · obtain ⟨o, t, ss, fs, x, as, r, rfl, _⟩ := h
    rfl
  · obtain ⟨o, t, ss, fs, x, as, r, rfl, sg, hl, h⟩ := h
    obtain ⟨kf, hf, hv, _⟩ := sg.fu
    have hx := hv x
    rw [hl] at hx
    obtain ⟨p, a, e, e1, e2⟩ := hx
    have g := DGet.k (k := Sum.inr x) hf
    rw [e] at g
    refine ⟨_, (pss_cons (ps_if (pt_cmp (pc_dnotin (hu_of hr) (pv 1) (pe_fld (pv 0) rfl))) (pss_one ps_never) pss_nil)
 (pss_one (ps_ret (pe_dget (hu_of hr) (pe_fld (pv 0) rfl) (pv 1) (fun _ _ => rfl))))), ?_⟩
    refine Z.w_start (σ' := [some (.ref o), some (.str x)]) rfl ?_
    walk_at "w"
    refine w_fldT T.cl_Signature T.n_Signature__functions sg.obj rfl ?_
    refine ⟨t.df, _, rfl, g, ?_⟩
    refine ⟨false, rfl, ?_⟩
    rw [if_neg (by decide)]
    walk_at "w"
    refine w_fldT T.cl_Signature T.n_Signature__functions sg.obj rfl ?_
    walk_at "w"
    refine ⟨t.df, _, rfl, g, ?_⟩
    exact h p a e1 e2
def spArgs (C : Addr) : Sp := fun vs H Q _ => ∃ (o : Addr) (t : SgO) (ss : List Str) (fs : List FnRow) (x : Str) (as : List Str) (r : Str), vs = [.ref o, .str x] ∧ SigAt C H o t ss fs ∧ fs.lookup x = some (as, r) ∧ ∀ a, H a = some (.tup (as.map V.str)) → Q (.ref a) H
theorem ok_args (T : Txt K mg) : FnOk P w K mg base CX0 2 T.f_Signature_arguments_of T.fd_Signature_arguments_of ["self", "name"] (spArgs T.C_Signature) := by
  have G_Signature_function := ok_fun (P := P) (w := w) (base := base) T
  refine T.F_Signature_arguments_of.ok sc_Signature_arguments_of (fun vs H Q E h => ?_) (fun cdv A outer s H vs Q E hr h => ?_)
  · obtain ⟨o, t, ss, fs, x, as, r, rfl, _⟩ := h
    rfl
  · obtain ⟨o, t, ss, fs, x, as, r, rfl, sg, hl, h⟩ := h
    refine ⟨_, (pss_one (ps_ret (pe_ix ix_tup (pe_meth (pv 0) T.cl_Signature T.M_Signature_function G_Signature_function (hr.mono (by first | decide | omega)) T.b_Signature_function .nil pass0 (pa_cons (pv 1) pa_nil)) pe_int (fun _ _ => rfl)))), ?_⟩
    refine Z.w_start (σ' := [some (.ref o), some (.str x)]) rfl ?_
    walk_at "w"
    refine w_meth0 sg.obj rfl (by rfl) ?_
    walk_at "w"
    refine ⟨o, t, ss, fs, x, as, r, rfl, sg, hl, fun p a e1 e2 => ?_⟩
    walk_at "w"
    exact h a e2
def spRes (C : Addr) : Sp := fun vs H Q _ => ∃ (o : Addr) (t : SgO) (ss : List Str) (fs : List FnRow) (x : Str) (as : List Str) (r : Str), vs = [.ref o, .str x] ∧ SigAt C H o t ss fs ∧ fs.lookup x = some (as, r) ∧ Q (.str r) H
theorem ok_res (T : Txt K mg) : FnOk P w K mg base CX0 2 T.f_Signature_result_of T.fd_Signature_result_of ["self", "name"] (spRes T.C_Signature) := by
  have G_Signature_function := ok_fun (P := P) (w := w) (base := base) T
  refine T.F_Signature_result_of.ok sc_Signature_result_of (fun vs H Q E h => ?_) (fun cdv A outer s H vs Q E hr h => ?_)
  · obtain ⟨o, t, ss, fs, x, as, r, rfl, _⟩ := h
    rfl
  · obtain ⟨o, t, ss, fs, x, as, r, rfl, sg, hl, h⟩ := h
    refine ⟨_, (pss_one (ps_ret (pe_ix ix_tup (pe_meth (pv 0) T.cl_Signature T.M_Signature_function G_Signature_function (hr.mono (by first | decide | omega)) T.b_Signature_function .nil pass0 (pa_cons (pv 1) pa_nil)) pe_int (fun _ _ => rfl)))), ?_⟩
    refine Z.w_start (σ' := [some (.ref o), some (.str x)]) rfl ?_
    walk_at "w"
    refine w_meth0 sg.obj rfl (by rfl) ?_
    walk_at "w"
    refine ⟨o, t, ss, fs, x, as, r, rfl, sg, hl, fun p a e1 e2 => ?_⟩
    walk_at "w"
    exact h
end
end L

namespace L
open PySem PySem.Spec PyProof.Rows L2 Z M
open _root_.SX (S S_len S_inj)
/-- a name that may be declared -/
def nameB (l : List Nat) : Bool := !decide (l ∈ w_RESERVED) && l.all (· < 128) && NM.fst1 l && l.all NM.nc
theorem inV_S (l : List Nat) (ls : List (List Nat)) : inV (.str (S l)) (ls.map fun l => V.str (S l)) = decide (l ∈ ls) := by
  unfold inV
  induction ls with
  | nil => simp
  | cons m ls ih =>
    rw [List.map_cons, List.any_cons, ih]
    have e : eqV (.str (S m)) (.str (S l)) = decide (l = m) := by
      show (S m == S l) = _
      by_cases h : l = m
      · subst h; simp
      · rw [decide_eq_false h]
        exact beq_eq_false_iff_ne.mpr fun z => h (S_inj z).symm
    rw [e]
    simp [List.mem_cons]
theorem flat_S (ls : List (List Nat)) : (ls.map fun l => V.str (S l)).all flatV = true := by
  induction ls with
  | nil => rfl
  | cons m ls ih => exact ih
section
variable {P : Program} {w : World} {K : PySem.W.Frag} {mg : Str → Option Value} {base : Heap}
theorem w_inS {p : Addr} {l : List Nat} {ls : List (List Nat)} {H : Hp} {Q : VK} (h : SqT K H p (ls.map fun l => V.str (S l))) (q : Q (.bl (decide (l ∈ ls))) H) : rIn K false (.str (S l)) (.ref p) H Q := w_opin (.inr h) rfl (flat_S ls) (by rw [inV_S]; exact q)
theorem w_ninS {p : Addr} {l : List Nat} {ls : List (List Nat)} {H : Hp} {Q : VK} (h : SqT K H p (ls.map fun l => V.str (S l))) (q : Q (.bl (!decide (l ∈ ls))) H) : rIn K true (.str (S l)) (.ref p) H Q := w_opin (.inr h) rfl (flat_S ls) (by rw [inV_S]; exact q)
theorem w_repl {l : List Nat} {to : TE} {y z : Str} {σ : L2.St} {H : Hp} {Q : VK} (hy : y = S [95]) (hz : z = S [97]) (hl : l.length ≤ 1000) (h : ∀ Q', Q' (.str (S l)) H → to σ H Q') (q : Q (.str (S (l.map fun c => if c = 95 then 97 else c))) H) : CwR.tReplC to y z σ H Q := by
  subst hy hz
  refine h _ ⟨S l, rfl, ?_, ?_⟩
  · rw [S_len, S_len]
    show l.length + (l.length + 1) * 1 ≤ 16777216
    omega
  · rw [NM.repl_S]
    exact q
def spIsName : Sp := fun vs H Q _ => ∃ l : List Nat, vs = [.str (S l)] ∧ l.length ≤ 1000 ∧ Q (.bl (nameB l)) H
theorem ok_isName (T : Txt K mg) : FnOk P w K mg base CX0 1 T.f_is_name T.fd_is_name ["text"] spIsName := by
  refine T.F_is_name.ok sc_is_name (fun vs H Q E h => ?_) (fun cdv A outer s H vs Q E hr h => ?_)
  · obtain ⟨l, rfl, _⟩ := h
    rfl
  · obtain ⟨l, rfl, hl, h⟩ := h
    refine ⟨_, (pss_cons (ps_if (PW.pt (pw_or (pt_cmpR op_in_seq (pv 0) (pe_glob (v := .ref T.A_RESERVED) (by rfl) T.g_RESERVED rfl) rfl) (pw_or1 (pt_not (pt_val (pe_m0 PySem.F.slot_str_isascii PySem.F.type_str_isascii mt_isascii (pv 0))))))) (pss_one (ps_ret pe_bl)) pss_nil)
 (pss_one (ps_ret (NM.pe_andU (NM.peu_m0 PySem.F.slot_str_isalpha PySem.F.type_str_isalpha mt_isalpha (NM.peu_sliceTo sl_str (pv 0))) (NM.pet_m0 PySem.F.slot_str_isalnum PySem.F.type_str_isalnum mt_isalnum (CwR.pet_replC (pv 0))))))), ?_⟩
    refine Z.w_start (σ' := [some (.str (S l))]) rfl ?_
    walk_at "w"
    refine w_inS (T.z_RESERVED _) ?_
    refine ⟨_, rfl, ?_⟩
    by_cases h1 : l ∈ w_RESERVED
    · rw [decide_eq_true h1, if_pos rfl]
      walk_at "w"
      rw [show nameB l = false by unfold nameB; rw [decide_eq_true h1]; rfl] at h
      exact h
    · rw [decide_eq_false h1, if_neg (by decide)]
      walk_at "w"
      rw [MT.ascii_S]
      have e2 : nameB l = (l.all (· < 128) && NM.fst1 l && l.all NM.nc) := by
        unfold nameB; rw [decide_eq_false h1]; rfl
      by_cases h2 : l.all (· < 128) = true
      · rw [h2] at e2 ⊢
        walk_at "w"
        rw [show ((1 : Int).toNat) = 1 from rfl, NM.alpha1_S l h2]
        cases hb : NM.fst1 l with
        | false =>
          rw [if_neg (by decide)]
          rw [hb] at e2
          rw [show nameB l = false by rw [e2]; rfl] at h
          exact h
        | true =>
          rw [if_pos rfl]
          rw [hb] at e2
          walk_at "w"
          refine w_repl (by decide +kernel) (by decide +kernel) hl (fun Q' hq => by walk_at "w"; exact hq) ?_
          walk_at "w"
          rw [NM.alnum_S l h2]
          have e3 : l.isEmpty = false := by cases l with | nil => cases hb | cons c r => rfl
          rw [e3]
          rw [e2] at h
          exact h
      · rw [Bool.not_eq_true] at h2
        rw [h2]
        walk_at "w"
        rw [show nameB l = false by rw [e2, h2]; rfl] at h
        exact h
end
end L

namespace L
open PySem PySem.Spec PyProof.Rows L2 Z M
open _root_.SX (S S_len S_inj)
section
variable {P : Program} {w : World} {K : PySem.W.Frag} {mg : Str → Option Value} {base : Heap}
/-- a name that may be declared and is not there -/
def spRefN (C : Addr) : Sp := fun vs H Q _ => ∃ (o : Addr) (t : SgO) (ss : List Str) (fs : List FnRow) (l : List Nat), vs = [.ref o, .str (S l)] ∧ SigAt C H o t ss fs ∧ l.length ≤ 1000 ∧ nameB l = true ∧ S l ∉ ss ∧ fs.lookup (S l) = none ∧ Q .non H
theorem ok_refN (T : Txt K mg) : FnOk P w K mg base CX0 2 T.f_Signature_refuse_name T.fd_Signature_refuse_name ["self", "name"] (spRefN T.C_Signature) := by
  have G_is_name := ok_isName (P := P) (w := w) (base := base) T
  refine T.F_Signature_refuse_name.ok sc_Signature_refuse_name (fun vs H Q E h => ?_) (fun cdv A outer s H vs Q E hr h => ?_)
  · obtain ⟨o, t, ss, fs, l, rfl, _⟩ := h
    rfl
  · obtain ⟨o, t, ss, fs, l, rfl, sg, hl, hb, n1, n2, h⟩ := h
    obtain ⟨ks, hs, hv, _⟩ := sg.so
    obtain ⟨kf, hf, hw, _⟩ := sg.fu
    have g1 := DGet.k (k := Sum.inr (S l)) hs
    have g2 := DGet.k (k := Sum.inr (S l)) hf
    have e1 : (valV ks (Sum.inr (S l))).isSome = false := by rw [hv]; exact decide_eq_false n1
    have e2 : (valV kf (Sum.inr (S l))).isSome = false := by rw [(hw (S l)).some_eq, n2]; rfl
    refine ⟨_, (pss_cons (ps_if (pt_not (pt_val (pe_call G_is_name (hr.mono (by first | decide | omega)) (by rfl) T.g_is_name T.F_is_name.kp T.b_is_name .nil pass0 (pa_cons (pv 1) pa_nil)))) (pss_one ps_never) pss_nil)
 (pss_one (ps_if (PW.pt (pw_or (pt_cmp (pc_din (hu_of hr) (pv 1) (pe_fld (pv 0) rfl))) (pw_or1 (pt_cmp (pc_din (hu_of hr) (pv 1) (pe_fld (pv 0) rfl)))))) (pss_one ps_never) pss_nil))), ?_⟩
    refine Z.w_start (σ' := [some (.ref o), some (.str (S l))]) rfl ?_
    walk_at "w"
    refine ⟨l, rfl, hl, ?_⟩
    rw [hb]
    walk_at "w"
    refine w_fldT T.cl_Signature T.n_Signature__sorts sg.obj rfl ?_
    refine ⟨t.ds, _, rfl, g1, ?_⟩
    rw [e1]
    walk_at "w"
    refine w_fldT T.cl_Signature T.n_Signature__functions sg.obj rfl ?_
    refine ⟨t.df, _, rfl, g2, ?_⟩
    rw [e2]
    walk_at "w"
    exact h
def spKnS (C : Addr) : Sp := fun vs H Q _ => ∃ (o : Addr) (t : SgO) (ss : List Str) (fs : List FnRow) (l : List Nat), vs = [.ref o, .str (S l)] ∧ SigAt C H o t ss fs ∧ Q (.bl (decide (l ∈ w_BASE_SORTS) || decide (S l ∈ ss))) H
theorem ok_knS (T : Txt K mg) : FnOk P w K mg base CX0 1 T.f_Signature_knows_sort T.fd_Signature_knows_sort ["self", "name"] (spKnS T.C_Signature) := by
  refine T.F_Signature_knows_sort.ok sc_Signature_knows_sort (fun vs H Q E h => ?_) (fun cdv A outer s H vs Q E hr h => ?_)
  · obtain ⟨o, t, ss, fs, l, rfl, _⟩ := h
    rfl
  · obtain ⟨o, t, ss, fs, l, rfl, sg, h⟩ := h
    obtain ⟨ks, hs, hv, _⟩ := sg.so
    have g1 := DGet.k (k := Sum.inr (S l)) hs
    refine ⟨_, (pss_one (ps_ret (pe_or (pe_cmpR op_in_seq (pv 1) (pe_glob (v := .ref T.A_BASE_SORTS) (by rfl) T.g_BASE_SORTS rfl) rfl) (pe_one (pe_cmp (pc_din (hu_of hr) (pv 1) (pe_fld (pv 0) rfl))))))), ?_⟩
    refine Z.w_start (σ' := [some (.ref o), some (.str (S l))]) rfl ?_
    walk_at "w"
    refine w_inS (T.z_BASE_SORTS _) ?_
    refine ⟨_, rfl, ?_⟩
    by_cases h1 : l ∈ w_BASE_SORTS
    · rw [decide_eq_true h1, if_pos rfl]
      rw [decide_eq_true h1] at h
      exact h
    · rw [decide_eq_false h1, if_neg (by decide)]
      rw [decide_eq_false h1] at h
      walk_at "w"
      refine w_fldT T.cl_Signature T.n_Signature__sorts sg.obj rfl ?_
      refine ⟨t.ds, _, rfl, g1, ?_⟩
      rw [hv]
      exact h
theorem SigAt.nd {C : Addr} {H : Hp} {o : Addr} {t : SgO} {ss : List Str} {fs : List FnRow} (sg : SigAt C H o t ss fs) : o ≠ t.ds ∧ o ≠ t.df := by
  obtain ⟨ks, hs, hv, _⟩ := sg.so
  obtain ⟨kf, hf, hw, _⟩ := sg.fu
  exact ⟨ne_ins sg.obj hs (fun _ _ _ e => nomatch e), ne_ins sg.obj hf (fun _ _ _ e => nomatch e)⟩
/-- a new sort -/
def spDeclS (C : Addr) : Sp := fun vs H Q _ => ∃ (o : Addr) (t : SgO) (ss : List Str) (fs : List FnRow) (l : List Nat), vs = [.ref o, .str (S l)] ∧ SigAt C H o t ss fs ∧ l.length ≤ 1000 ∧ nameB l = true ∧ S l ∉ ss ∧ fs.lookup (S l) = none ∧ ss.length ≤ 1000 ∧
  ∀ H', Ch [t.ds] H H' → SigAt C H' o t (ss ++ [S l]) fs → Q .non H'
theorem ok_declS (T : Txt K mg) : FnOk P w K mg base CX0 3 T.f_Signature_declare_sort T.fd_Signature_declare_sort ["self", "name"] (spDeclS T.C_Signature) := by
  have G_Signature_refuse_name := ok_refN (P := P) (w := w) (base := base) T
  refine T.F_Signature_declare_sort.ok sc_Signature_declare_sort (fun vs H Q E h => ?_) (fun cdv A outer s H vs Q E hr h => ?_)
  · obtain ⟨o, t, ss, fs, l, rfl, _⟩ := h
    rfl
  · obtain ⟨o, t, ss, fs, l, rfl, sg, hl, hb, n1, n2, hsl, h⟩ := h
    obtain ⟨ks, hs, hv, hkl⟩ := sg.so
    obtain ⟨kf, hf, hw, hfl⟩ := sg.fu
    have hksz : ks.length < sizeLine := Nat.lt_of_le_of_lt (Nat.le_trans hkl hsl) (by decide)
    refine ⟨_, (pss_cons (ps_expr (pe_meth (pv 0) T.cl_Signature T.M_Signature_refuse_name G_Signature_refuse_name (hr.mono (by first | decide | omega)) T.b_Signature_refuse_name .nil pass0 (pa_cons (pv 1) pa_nil)))
 (pss_one (ps_dput (hu_of hr) (pe_fld (pv 0) rfl) (pv 1) pe_bl rfl))), ?_⟩
    refine Z.w_start (σ' := [some (.ref o), some (.str (S l))]) rfl ?_
    walk_at "w"
    refine w_meth0 sg.obj rfl (by rfl) ?_
    walk_at "w"
    refine ⟨o, t, ss, fs, l, rfl, sg, hl, hb, n1, n2, ?_⟩
    walk_at "w"
    refine w_fldT T.cl_Signature T.n_Signature__sorts sg.obj rfl ?_
    walk_at "w"
    refine ⟨t.ds, _, rfl, DPut.k (k := Sum.inr (S l)) hs hksz, ?_⟩
    refine h _ ((Ch.refl _ _).put (List.mem_singleton.mpr rfl)) ⟨?_, sg.ne, ⟨_, upd_same, fun x => ?_, ?_⟩, kf, ?_, fun x => (hw x).same fun b ys e => ?_, hfl⟩
    · rw [upd_ne sg.nd.1]
      exact sg.obj
    · rw [valV_put]
      by_cases e : x = S l
      · subst e
        rw [if_pos rfl]
        simp
      · rw [if_neg (fun z => e (Sum.inr.inj z)), hv]
        simp [e]
    · have := length_putK ks (Sum.inr (S l)) (.bl true)
      rw [List.length_append]
      simp
      omega
    · rw [upd_ne sg.ne.symm]
      exact hf
    · rw [upd_ne (fun z => by rw [z, hs] at e; cases e)]
      exact e
end
end L

namespace L
open PySem PySem.Spec PyProof.Rows L2 Z M
open _root_.SX (S S_len S_inj)
section
variable {P : Program} {w : World} {K : PySem.W.Frag} {mg : Str → Option Value} {base : Heap}
theorem lookup_new {fs : List FnRow} {x y : Str} {r : List Str × Str} (h : fs.lookup x = none) : (fs ++ [(x, r)]).lookup y = if y = x then some r else fs.lookup y := by
  induction fs with
  | nil =>
    show (match y == x with | true => some r | false => none) = _
    by_cases e : y = x
    · subst e; simp
    · rw [if_neg e, beq_eq_false_iff_ne.mpr e]; rfl
  | cons p fs ih =>
    obtain ⟨z, q⟩ := p
    rw [List.lookup_cons] at h
    cases hz : (x == z) with
    | true => rw [hz] at h; cases h
    | false =>
      rw [hz] at h
      have := ih h
      rw [List.cons_append, List.lookup_cons, List.lookup_cons, this]
      cases hy : (y == z) with
      | false => rfl
      | true =>
        obtain rfl := eq_of_beq hy
        have e : ¬ y = x := fun e => by
          rw [e, beq_self_eq_true] at hz
          cases hz
        exact (if_neg e).symm
def okSort (ss : List Str) (l : List Nat) : Prop := (l ∈ w_BASE_SORTS ∨ S l ∈ ss)
/-- a new function -/
def spDeclF (K : PySem.W.Frag) (C : Addr) : Sp := fun vs H Q _ => ∃ (o : Addr) (t : SgO) (ss : List Str) (fs : List FnRow) (l : List Nat) (al : Addr) (as : List (List Nat)) (r : List Nat), vs = [.ref o, .str (S l), .ref al, .str (S r)] ∧ SigAt C H o t ss fs ∧ l.length ≤ 1000 ∧ nameB l = true ∧ S l ∉ ss ∧ fs.lookup (S l) = none ∧ fs.length ≤ 1000 ∧
  H al = some (.lst (as.map fun a => V.str (S a))) ∧ as.length ≤ 50 ∧ (∀ a ∈ as, okSort ss a ∧ a ≠ [116, 114, 117, 116, 104]) ∧ okSort ss r ∧
  ∀ H', Ch [t.df] H H' → SigAt C H' o t ss (fs ++ [(S l, as.map S, S r)]) → Q .non H'
theorem ok_declF (T : Txt K mg) : FnOk P w K mg base CX0 3 T.f_Signature_declare_function T.fd_Signature_declare_function ["self", "name", "arguments", "result"] (spDeclF K T.C_Signature) := by
  have G_Signature_refuse_name := ok_refN (P := P) (w := w) (base := base) T
  have G_Signature_knows_sort := ok_knS (P := P) (w := w) (base := base) T
  refine T.F_Signature_declare_function.ok sc_Signature_declare_function (fun vs H Q E h => ?_) (fun cdv A outer s H vs Q E hr h => ?_)
  · obtain ⟨o, t, ss, fs, l, al, as, r, rfl, _⟩ := h
    rfl
  · obtain ⟨o, t, ss, fs, l, al, as, r, rfl, sg, hl, hb, n1, n2, hsl, ea, hal, hok, hr2, h⟩ := h
    obtain ⟨ks, hs, hv, hkl⟩ := sg.so
    obtain ⟨kf, hf, hw, hfk⟩ := sg.fu
    have hfl : kf.length ≤ fs.length := by
      have := congrArg List.length hfk
      rw [List.length_map, List.length_map] at this
      omega
    have hksz : kf.length < sizeLine := Nat.lt_of_le_of_lt (Nat.le_trans hfl hsl) (by decide)
    refine ⟨_, (pss_cons (ps_expr (pe_meth (pv 0) T.cl_Signature T.M_Signature_refuse_name G_Signature_refuse_name (hr.mono (by first | decide | omega)) T.b_Signature_refuse_name .nil pass0 (pa_cons (pv 1) pa_nil)))
 (pss_cons (ps_for PassesOwn.never rfl (pi_list (pv 2)) (pg_name (i := 4) sc_Signature_declare_function.nd rfl (.inl rfl)) (pss_cons (ps_if (pt_not (pt_val (pe_meth (pv 0) T.cl_Signature T.M_Signature_knows_sort G_Signature_knows_sort (hr.mono (by first | decide | omega)) T.b_Signature_knows_sort .nil pass0 (pa_cons (pv 4) pa_nil)))) (pss_one ps_never) pss_nil)
 (pss_one (ps_if (pt_cmpR op_eq (pv 4) (MT.pe_strS (l := [116, 114, 117, 116, 104]) (by decide +kernel)) (nomark _)) (pss_one ps_never) pss_nil))))
 (pss_cons (ps_if (pt_not (pt_val (pe_meth (pv 0) T.cl_Signature T.M_Signature_knows_sort G_Signature_knows_sort (hr.mono (by first | decide | omega)) T.b_Signature_knows_sort .nil pass0 (pa_cons (pv 3) pa_nil)))) (pss_one ps_never) pss_nil)
 (pss_one (ps_dput (hu_of hr) (pe_fld (pv 0) rfl) (pv 1) (pe_tup (pa_cons (pe_callTy call_tuple_of (by rfl) T.m_tuple (by decide +kernel) (pa_cons (pv 2) pa_nil)) (pa_cons (pv 3) pa_nil))) rfl))))), ?_⟩
    refine Z.w_start (σ' := [some (.ref o), some (.str (S l)), some (.ref al), some (.str (S r)), none]) rfl ?_
    walk_at "w"
    refine w_meth0 sg.obj rfl (by rfl) ?_
    walk_at "w"
    refine ⟨o, t, ss, fs, l, rfl, sg, hl, hb, n1, n2, ?_⟩
    walk_at "w"
    refine for_list (xs := as.map fun a => V.str (S a)) (fun i σ' H' => H' = H ∧ ∃ v, σ' = [some (.ref o), some (.str (S l)), some (.ref al), some (.str (S r)), v]) ⟨rfl, none, rfl⟩ ?_ ?_ ?_
    · rintro i σ' H' _ ⟨rfl, _⟩
      exact .inl (.inl ea)
    · rintro i x σ' H' hx ⟨rfl, v, rfl⟩
      rw [List.getElem?_map] at hx
      obtain ⟨a, ha, rfl⟩ := Option.map_eq_some_iff.mp hx
      obtain ⟨h1, h2⟩ := hok a (List.mem_of_getElem? ha)
      walk_at "w"
      refine w_meth0 sg.obj rfl (by rfl) ?_
      walk_at "w"
      refine ⟨o, t, ss, fs, a, rfl, sg, ?_⟩
      have e1 : (decide (a ∈ w_BASE_SORTS) || decide (S a ∈ ss)) = true := by
        rcases h1 with q | q
        · rw [decide_eq_true q]; rfl
        · rw [decide_eq_true q, Bool.or_true]
      rw [e1]
      walk_at "w"
      exact ⟨_, rfl⟩
    · rintro σ' H' ⟨rfl, v, rfl⟩
      walk_at "w"
      refine w_meth0 sg.obj rfl (by rfl) ?_
      walk_at "w"
      refine ⟨o, t, ss, fs, r, rfl, sg, ?_⟩
      have e1 : (decide (r ∈ w_BASE_SORTS) || decide (S r ∈ ss)) = true := by
        rcases hr2 with q | q
        · rw [decide_eq_true q]; rfl
        · rw [decide_eq_true q, Bool.or_true]
      rw [e1]
      walk_at "w"
      refine ⟨al, _, rfl, .inl ⟨.inl (.inl ea), fun p hp => ?_⟩⟩
      walk_at "w"
      rename_i q hq
      have hpq : upd (upd H' p (.tup (as.map fun a => V.str (S a)))) q (.tup [.ref p, .str (S r)]) p = some (.tup (as.map fun a => V.str (S a))) := upd_of hq upd_same
      have sm : Same H' (upd (upd H' p (.tup (as.map fun a => V.str (S a)))) q (.tup [.ref p, .str (S r)])) := same_of (same_of (Same.refl _) hp) hq
      have eqq : upd (upd H' p (.tup (as.map fun a => V.str (S a)))) q (.tup [.ref p, .str (S r)]) q = some (.tup [.ref p, .str (S r)]) := upd_same
      generalize upd (upd H' p (.tup (as.map fun a => V.str (S a)))) q (.tup [.ref p, .str (S r)]) = H2 at hpq sm eqq ⊢
      have sg2 := sg.same sm
      refine w_fldT T.cl_Signature T.n_Signature__functions sg2.obj rfl ?_
      walk_at "w"
      refine ⟨t.df, _, rfl, DPut.k (k := Sum.inr (S l)) (sm _ _ hf) hksz, ?_⟩
      have tp : ∀ b ys, H2 b = some (.tup ys) → ∀ u, upd H2 t.df u b = some (.tup ys) := fun b ys e u => by
        rw [upd_ne (fun z => by rw [z, sm _ _ hf] at e; cases e)]
        exact e
      refine h _ ((Ch.of sm).put (List.mem_singleton.mpr rfl)) ⟨?_, sg.ne, ⟨ks, ?_, hv, hkl⟩, _, upd_same, fun x => ?_, ?_⟩
      · rw [upd_ne sg.nd.2]
        exact sg2.obj
      · rw [upd_ne sg.ne]
        exact sm _ _ hs
      · rw [valV_put, lookup_new n2]
        by_cases e : x = S l
        · subst e
          rw [if_pos rfl, if_pos rfl]
          exact ⟨q, p, rfl, tp _ _ eqq _, by rw [List.map_map]; exact tp _ _ hpq _⟩
        · rw [if_neg (fun z => e (Sum.inr.inj z)), if_neg e]
          exact (hw x).same fun b ys e => tp _ _ (sm _ _ e) _
      · have h0 : valV kf (Sum.inr (S l)) = none := by
          have := hw (S l)
          rw [n2] at this
          exact this
        rw [putK_new _ h0, List.map_append, List.map_append, hfk]
        rfl
/-- a new signature -/
def spSigInit (C : Addr) : Sp := fun vs H Q _ => ∃ (x dx : Addr), vs = [.ref x] ∧ H x = some (.ins C dx []) ∧ ∀ H' t, Ch [x] H H' → t.dx = dx → SigAt C H' x t [] [] → H t.ds = none → H t.df = none → Q .non H'
theorem ok_sigInit (T : Txt K mg) : FnOk P w K mg base CX0 1 T.f_Signature_init T.fd_Signature_init ["self"] (spSigInit T.C_Signature) := by
  refine T.F_Signature_init.ok sc_Signature_init (fun vs H Q E h => ?_) (fun cdv A outer s H vs Q E hr h => ?_)
  · obtain ⟨x, dx, rfl, _⟩ := h
    rfl
  · obtain ⟨x, dx, rfl, hx, h⟩ := h
    refine ⟨_, (pss_cons (ps_fld (pv 0) pe_dnewK rfl)
 (pss_one (ps_fld (pv 0) pe_dnewK rfl))), ?_⟩
    refine Z.w_start (σ' := [some (.ref x)]) rfl ?_
    walk_at "w"
    refine w_fld (Z.w_dnew fun l1 hl1 => Z.w_var (v := V.ref x) rfl ⟨x, _, dx, [], rfl, upd_of hl1 hx, T.cl_Signature, T.n_Signature__sorts, by decide, ?_⟩)
    walk_at "w"
    refine w_fld (Z.w_dnew fun l2 hl2 => Z.w_var (v := V.ref x) rfl ⟨x, _, dx, _, rfl, upd_of hl2 upd_same, T.cl_Signature, T.n_Signature__functions, (by show 1 < 1000; decide), ?_⟩)
    have n1 : l1 ≠ x := fun e => by rw [e, hx] at hl1; cases hl1
    have n2 : l2 ≠ x := fun e => by rw [e, upd_same] at hl2; cases hl2
    rw [upd_ne n2] at hl2
    have n3 : l2 ≠ l1 := fun e => by rw [e, upd_same] at hl2; cases hl2
    rw [upd_ne n3] at hl2
    walk_at "w"
    refine h _ ⟨dx, l1, l2⟩ (((((Ch.refl _ _).new hl1).put (List.mem_singleton.mpr rfl)).new ?_).put (List.mem_singleton.mpr rfl)) rfl ⟨upd_same, n3.symm, ⟨[], ?_, fun x => rfl, Nat.le_refl _⟩, [], ?_, fun x => rfl, rfl⟩ hl1 hl2
    · rw [upd_ne n2, upd_ne n3]; exact hl2
    · rw [upd_ne n1, upd_ne n3.symm, upd_ne n1, upd_same]
    · rw [upd_ne n2, upd_same]
end
end L

namespace L
open PySem PySem.Spec PyProof.Rows L2 Z M
open _root_.SX (S S_len S_inj)
/-- the two dicts of the module -/
structure Tw (K : PySem.W.Frag) (mg : Str → Option Value) (T : Txt K mg) (w : World) : Prop where
  leaf : ∃ es n, KDict K w T.A_LEAF_SORTS es n
  sums : ∃ es n, KDict K w T.A_SUMS es n
def allS (ls : List (List Nat)) (z : List Nat) : Bool := ls.all fun a => decide (a = z)
theorem allS_S (ls : List (List Nat)) (z : List Nat) : ((ls.map S).all fun a => decide (a = S z)) = allS ls z := by
  unfold allS
  rw [List.all_map]
  congr 1
  funext a
  show decide (S a = S z) = decide (a = z)
  by_cases h : a = z
  · rw [decide_eq_true h, decide_eq_true (by rw [h])]
  · rw [decide_eq_false h, decide_eq_false (fun k => h (S_inj k))]
section
variable {P : Program} {w : World} {K : PySem.W.Frag} {mg : Str → Option Value} {base : Heap}
def spAllOf (Pt : Addr) : Sp := fun vs H Q _ => ∃ (la : Addr) (ls : List (List Nat)) (z : List Nat), vs = [.ref la, .str (S z)] ∧ H la = some (.lst (ls.map fun l => V.str (S l))) ∧ GxR.TabG H Pt ∧ ∀ H', GxR.Tabbed Pt H H' → Q (.bl (allS ls z)) H'
theorem ok_allOf (T : Txt K mg) (TB : GxR.TabB base mg T.c_ao T.P_ao) : FnOk P w K mg base CX0 2 T.f_all_of T.fd_all_of ["sorts", "wanted"] (spAllOf T.P_ao) := by
  refine T.FT_ao.ok sc_all_of (fun vs H Q E h => ?_) (fun A outer s H vs Q E hr h => ?_)
  · obtain ⟨la, ls, z, rfl, _⟩ := h
    rfl
  · obtain ⟨la, ls, z, rfl, hS, ht, h⟩ := h
    refine ⟨_, (pss_one (ps_ret (GAL.pe_allE (i := 1) hr (by rfl) T.m_all (by decide +kernel) TB rfl (GAL.genC_by (by decide +kernel)) (pv 0) rfl rfl (fun _ => rfl)))), ?_⟩
    refine Z.w_start (σ' := [some (.ref la), some (.str (S z)), none]) rfl ?_
    walk_at "w"
    refine ⟨S z, rfl, .ref la, rfl, la, ls.map S, rfl, .inl (.inl (by rw [List.map_map]; exact hS)), ht, fun H' t' => ?_⟩
    rw [allS_S]
    exact h H' t'
def SUM : List Nat := [115, 117, 109]
def sumB (op : List Nat) (ls : List (List Nat)) (r : List Nat) : Bool := (if op = SUM then decide (ls.length ≥ 2) else decide (ls.length = 1)) && allS ls r
def spSumF (Pt : Addr) : Sp := fun vs H Q _ => ∃ (la : Addr) (ls : List (List Nat)) (op r : List Nat), vs = [.str (S op), .ref la] ∧ (op, r) ∈ d_SUMS ∧ H la = some (.lst (ls.map fun l => V.str (S l))) ∧ ls.length ≤ 1000 ∧ GxR.TabG H Pt ∧ ∀ H', (∀ b, b ≠ Pt → ∀ x, H b = some x → H' b = some x) → GxR.TabG H' Pt → Q (.bl (sumB op ls r)) H'
theorem ok_sumF (T : Txt K mg) (W : Tw K mg T w) (TB : GxR.TabB base mg T.c_ao T.P_ao) : FnOk P w K mg base CX0 3 T.f_sum_fits T.fd_sum_fits ["op", "sorts"] (spSumF T.P_ao) := by
  have G_all_of := ok_allOf (P := P) (w := w) (base := base) T TB
  obtain ⟨sk, sn, SD⟩ := W.sums
  refine T.F_sum_fits.ok sc_sum_fits (fun vs H Q E h => ?_) (fun cdv A outer s H vs Q E hr h => ?_)
  · obtain ⟨la, ls, op, r, rfl, _⟩ := h
    rfl
  · obtain ⟨la, ls, op, r, rfl, hm, hla, hll, ht, h⟩ := h
    obtain ⟨tk, htk⟩ := T.n_SUMS _ hm
    have hl1 : (ls.map fun l => V.str (S l)).length = ls.length := List.length_map ..
    have last : ∀ b : Bool, (b = (if op = SUM then decide (ls.length ≥ 2) else decide (ls.length = 1))) → b = false → sumB op ls r = false := fun b e1 e2 => by unfold sumB; rw [← e1, e2, Bool.false_and]
    refine ⟨_, (pss_cons (ps_set (i := 2) sc_sum_fits.nd rfl (.inl rfl) (pe_ifExp (pt_cmpR op_eq (pv 0) (MT.pe_strS (l := [115, 117, 109]) (by decide +kernel)) (nomark _)) (pe_cmpR op_ge (pe_callB call_len_seq (by rfl) T.m_len (by decide +kernel) (pa_cons (pv 1) pa_nil)) pe_int (nomark _)) (pe_cmpR op_eq (pe_callB call_len_seq (by rfl) T.m_len (by decide +kernel) (pa_cons (pv 1) pa_nil)) pe_int (nomark _))))
 (pss_one (ps_ret (pe_and (pv 2) (pe_one (pe_call G_all_of (hr.mono (by first | decide | omega)) (by rfl) T.g_all_of T.F_all_of.kp T.b_all_of .nil pass0 (pa_cons (pv 1) (pa_cons (pe_ix ix_kdict (pe_glob (v := .ref T.A_SUMS) (by rfl) T.g_SUMS rfl) (pv 0) (fun _ _ => rfl)) pa_nil)))))))), ?_⟩
    refine Z.w_start (σ' := [some (.str (S op)), some (.ref la), none]) rfl ?_
    have hsum : ([115, 117, 109] : List Nat) = SUM := rfl
    walk_at "w"
    by_cases hop : op = SUM
    · refine Z.w_iteT hop ?_
      have e : (if op = SUM then decide (ls.length ≥ 2) else decide (ls.length = 1)) = decide (ls.length ≥ 2) := if_pos hop
      rw [e] at last
      walk_at "w"
      by_cases hc : ls.length ≥ 2
      · refine Z.w_iteT (by rw [hl1]; omega) ?_
        walk_at "w"
        refine ⟨T.A_SUMS, S op, .str (S r), rfl, rfl, ⟨sk, sn, _, SD.at_, SD.lit, htk, ⟨tk, rfl⟩⟩, ?_⟩
        walk_at "w"
        refine ⟨la, ls, r, rfl, hla, ht, fun H' t' => ?_⟩
        have q := h H' (fun b hb x e => by rw [t'.2 b hb]; exact e) t'.1
        unfold sumB at q
        rw [e, decide_eq_true hc, Bool.true_and] at q
        exact q
      · refine Z.w_iteF (by rw [hl1]; omega) ?_
        have q := h H (fun b _ x e => e) ht
        rw [last _ rfl (decide_eq_false hc)] at q
        exact q
    · refine Z.w_iteF hop ?_
      have e : (if op = SUM then decide (ls.length ≥ 2) else decide (ls.length = 1)) = decide (ls.length = 1) := if_neg hop
      rw [e] at last
      walk_at "w"
      by_cases hc : ls.length = 1
      · refine Z.w_iteT (by rw [hl1]; omega) ?_
        walk_at "w"
        refine ⟨T.A_SUMS, S op, .str (S r), rfl, rfl, ⟨sk, sn, _, SD.at_, SD.lit, htk, ⟨tk, rfl⟩⟩, ?_⟩
        walk_at "w"
        refine ⟨la, ls, r, rfl, hla, ht, fun H' t' => ?_⟩
        have q := h H' (fun b hb x e => by rw [t'.2 b hb]; exact e) t'.1
        unfold sumB at q
        rw [e, decide_eq_true hc, Bool.true_and] at q
        exact q
      · refine Z.w_iteF (by rw [hl1]; omega) ?_
        have q := h H (fun b _ x e => e) ht
        rw [last _ rfl (decide_eq_false hc)] at q
        exact q
def EQU : List Nat := [101, 113, 117, 97, 108]
def DIST : List Nat := [100, 105, 115, 116, 105, 110, 99, 116]
def numS : List (List Nat) := [[119, 104, 111, 108, 101], [114, 97, 116, 105, 111]]
/-- may these be compared by op -/
def cmpB (op : List Nat) (ls : List (List Nat)) : Bool := match ls with
  | a :: b :: r => allS (a :: b :: r) a && (decide (op = DIST) || (decide (r = []) && (decide (op = EQU) || decide (a ∈ numS))))
  | _ => false
def spCmpF (Pt : Addr) : Sp := fun vs H Q _ => ∃ (la : Addr) (ls : List (List Nat)) (op : List Nat), vs = [.str (S op), .ref la] ∧ H la = some (.lst (ls.map fun l => V.str (S l))) ∧ ls.length ≤ 1000 ∧ GxR.TabG H Pt ∧ ∀ H', (∀ b, b ≠ Pt → ∀ x, H b = some x → H' b = some x) → GxR.TabG H' Pt → Q (.bl (cmpB op ls)) H'
theorem ok_cmpF (T : Txt K mg) (TB : GxR.TabB base mg T.c_ao T.P_ao) : FnOk P w K mg base CX0 3 T.f_comparison_fits T.fd_comparison_fits ["op", "sorts"] (spCmpF T.P_ao) := by
  have G_all_of := ok_allOf (P := P) (w := w) (base := base) T TB
  refine T.F_comparison_fits.ok sc_comparison_fits (fun vs H Q E h => ?_) (fun cdv A outer s H vs Q E hr h => ?_)
  · obtain ⟨la, ls, op, rfl, _⟩ := h
    rfl
  · obtain ⟨la, ls, op, rfl, hla, hll, ht, h⟩ := h
    have hl1 : (ls.map fun l => V.str (S l)).length = ls.length := List.length_map ..
    refine ⟨_, (pss_cons (ps_if (PW.pt (pw_or (pt_cmpR op_lt (pe_callB call_len_seq (by rfl) T.m_len (by decide +kernel) (pa_cons (pv 1) pa_nil)) pe_int (nomark _)) (pw_or1 (pt_not (pt_val (pe_call G_all_of (hr.mono (by first | decide | omega)) (by rfl) T.g_all_of T.F_all_of.kp T.b_all_of .nil pass0 (pa_cons (pv 1) (pa_cons (pe_ix ix_list (pv 1) pe_int (fun _ _ => rfl)) pa_nil)))))))) (pss_one (ps_ret pe_bl)) pss_nil)
 (pss_cons (ps_if (pt_cmpR op_eq (pv 0) (MT.pe_strS (l := [100, 105, 115, 116, 105, 110, 99, 116]) (by decide +kernel)) (nomark _)) (pss_one (ps_ret pe_bl)) pss_nil)
 (pss_one (ps_ret (pe_and (pe_cmpR op_eq (pe_callB call_len_seq (by rfl) T.m_len (by decide +kernel) (pa_cons (pv 1) pa_nil)) pe_int (nomark _)) (pe_one (pe_or (pe_cmpR op_eq (pv 0) (MT.pe_strS (l := [101, 113, 117, 97, 108]) (by decide +kernel)) (nomark _)) (pe_one (pe_cmpR op_in_seq (pe_ix ix_list (pv 1) pe_int (fun _ _ => rfl)) (pe_tup (pa_cons (MT.pe_strS (l := [119, 104, 111, 108, 101]) (by decide +kernel)) (pa_cons (MT.pe_strS (l := [114, 97, 116, 105, 111]) (by decide +kernel)) pa_nil))) rfl))))))))), ?_⟩
    refine Z.w_start (σ' := [some (.str (S op)), some (.ref la)]) rfl ?_
    walk_at "w"
    by_cases h2 : ls.length < 2
    · refine Z.w_iteT (by rw [hl1]; omega) ?_
      walk_at "w"
      have q := h H (fun b _ x e => e) ht
      have e : cmpB op ls = false := by
        match ls, h2 with
        | [], _ => rfl
        | [_], _ => rfl
      rw [e] at q
      exact q
    · refine Z.w_iteF (by rw [hl1]; omega) ?_
      obtain ⟨a, b, r, rfl⟩ : ∃ a b r, ls = a :: b :: r := by
        match ls, h2 with
        | a :: b :: r, _ => exact ⟨a, b, r, rfl⟩
        | [_], h => exact absurd (show 1 < 2 by decide) h
        | [], h => exact absurd (show 0 < 2 by decide) h
      walk_at "w"
      refine Z.w_ixH hla (atI_nat (j := 0) rfl) ?_
      refine ⟨la, a :: b :: r, a, rfl, hla, ht, fun H1 t1 => ?_⟩
      have nla : la ≠ T.P_ao := fun z => by
        obtain ⟨ps, hp, _⟩ := ht
        rw [z, hp] at hla
        cases hla
      have keep : ∀ b, b ≠ T.P_ao → ∀ x, H b = some x → H1 b = some x := fun b hb x e => by rw [t1.2 b hb]; exact e
      have hla1 := keep la nla _ hla
      walk_at "w"
      by_cases ha : allS (a :: b :: r) a = true
      · rw [ha]
        walk_at "w"
        by_cases hd : op = DIST
        · refine Z.w_iteT hd ?_
          walk_at "w"
          have q := h H1 keep t1.1
          have e : cmpB op (a :: b :: r) = true := by
            show (allS (a :: b :: r) a && (decide (op = DIST) || _)) = true
            rw [ha, decide_eq_true hd]
            rfl
          rw [e] at q
          exact q
        · refine Z.w_iteF hd ?_
          walk_at "w"
          have eC : ∀ x : Bool, x = (decide (r = []) && (decide (op = EQU) || decide (a ∈ numS))) → cmpB op (a :: b :: r) = x := fun x hx => by
            show (allS (a :: b :: r) a && (decide (op = DIST) || (decide (r = []) && (decide (op = EQU) || decide (a ∈ numS))))) = x
            rw [ha, decide_eq_false hd, Bool.true_and, Bool.false_or, hx]
          by_cases hr0 : r = []
          · subst hr0
            refine Z.w_iteT rfl ?_
            walk_at "w"
            by_cases he : op = EQU
            · refine Z.w_iteT he ?_
              have q := h H1 keep t1.1
              rw [eC true (by rw [decide_eq_true he]; rfl)] at q
              exact q
            · refine Z.w_iteF he ?_
              walk_at "w"
              rename_i tq htq
              have nq : tq ≠ T.P_ao := fun z => by
                obtain ⟨ps, hp, _⟩ := t1.1
                rw [z, hp] at htq
                cases htq
              refine w_inS (l := a) (ls := numS) (.inl (.inl upd_same)) ?_
              have q := h (upd H1 tq (.tup (numS.map fun l => V.str (S l)))) (fun c hc x e => upd_of htq (keep c hc x e)) (by
                obtain ⟨ps, hp, hp2⟩ := t1.1
                exact ⟨ps, upd_of htq hp, hp2⟩)
              rw [eC (decide (a ∈ numS)) (by rw [decide_eq_false he, Bool.false_or]; rfl)] at q
              exact q
          · have hl3 : ¬ (((a :: b :: r).map fun l => V.str (S l)).length : Int) = 2 := by
              have : 0 < r.length := List.length_pos_iff.mpr hr0
              rw [List.length_map, List.length_cons, List.length_cons]
              omega
            refine Z.w_iteF hl3 ?_
            have q := h H1 keep t1.1
            rw [eC false (by rw [decide_eq_false hr0]; rfl)] at q
            exact q
      · have ha' : allS (a :: b :: r) a = false := Bool.eq_false_iff.mpr ha
        rw [ha']
        walk_at "w"
        have q := h H1 keep t1.1
        have e : cmpB op (a :: b :: r) = false := by
          show (allS (a :: b :: r) a && _) = false
          rw [ha', Bool.false_and]
        rw [e] at q
        exact q
end
end L

namespace L
open PySem PySem.Spec PyProof.Rows L2 Z M
open _root_.SX (S S_len S_inj)
def NOTc : List Nat := [110, 111, 116]
def IMPc : List Nat := [105, 109, 112, 108, 121]
abbrev TRUTHc : List Nat := [116, 114, 117, 116, 104]
def needN (op : List Nat) (n : Nat) : Nat := if op = NOTc then 1 else if op = IMPc then 2 else n
def conB (op : List Nat) (ls : List (List Nat)) : Bool := decide (ls.length = needN op ls.length) && allS ls TRUTHc
section
variable {P : Program} {w : World} {K : PySem.W.Frag} {mg : Str → Option Value} {base : Heap}
def spConF (Pt : Addr) : Sp := fun vs H Q _ => ∃ (la : Addr) (ls : List (List Nat)) (op : List Nat), vs = [.str (S op), .ref la] ∧ H la = some (.lst (ls.map fun l => V.str (S l))) ∧ ls.length ≤ 1000 ∧ GxR.TabG H Pt ∧ ∀ H', (∀ b, b ≠ Pt → ∀ x, H b = some x → H' b = some x) → GxR.TabG H' Pt → Q (.bl (conB op ls)) H'
theorem ok_conF (T : Txt K mg) (TB : GxR.TabB base mg T.c_ao T.P_ao) : FnOk P w K mg base CX0 3 T.f_connective_fits T.fd_connective_fits ["op", "sorts"] (spConF T.P_ao) := by
  have G_all_of := ok_allOf (P := P) (w := w) (base := base) T TB
  refine T.F_connective_fits.ok sc_connective_fits (fun vs H Q E h => ?_) (fun cdv A outer s H vs Q E hr h => ?_)
  · obtain ⟨la, ls, op, rfl, _⟩ := h
    rfl
  · obtain ⟨la, ls, op, rfl, hla, hll, ht, h⟩ := h
    have hl1 : (ls.map fun l => V.str (S l)).length = ls.length := List.length_map ..
    refine ⟨_, (pss_cons (ps_set (i := 2) sc_connective_fits.nd rfl (.inl rfl) (pe_disp (pps_cons (MT.pe_strS (l := [110, 111, 116]) (by decide +kernel)) pe_int (pps_cons (MT.pe_strS (l := [105, 109, 112, 108, 121]) (by decide +kernel)) pe_int pps_nil)) (by rfl) (by rfl) (fun z => by cases z) (by decide)))
 (pss_one (ps_ret (pe_and (pe_cmpR op_eq (pe_callB call_len_seq (by rfl) T.m_len (by decide +kernel) (pa_cons (pv 1) pa_nil)) (pe_dget2 (hu_of hr) (pv 2) (pv 0) (pe_callB call_len_seq (by rfl) T.m_len (by decide +kernel) (pa_cons (pv 1) pa_nil)) ⟨rfl, rfl, rfl, rfl⟩) (nomark _)) (pe_one (pe_call G_all_of (hr.mono (by first | decide | omega)) (by rfl) T.g_all_of T.F_all_of.kp T.b_all_of .nil pass0 (pa_cons (pv 1) (pa_cons (MT.pe_strS (l := [116, 114, 117, 116, 104]) (by decide +kernel)) pa_nil)))))))), ?_⟩
    refine Z.w_start (σ' := [some (.str (S op)), some (.ref la), none]) rfl ?_
    walk_at "w"
    intro p hp
    have nP : p ≠ T.P_ao := fun z => by
      obtain ⟨ps, hq, _⟩ := ht
      rw [z, hq] at hp
      cases hp
    refine ⟨upd_same, [(Sum.inr (S NOTc), .int 1), (Sum.inr (S IMPc), .int 2)], rfl, by decide, ?_⟩
    have e1 : upd (upd H p (.dK [])) p (.dK (mergeK [] [(Sum.inr (S NOTc), V.int 1), (Sum.inr (S IMPc), V.int 2)])) p = some (.dK (putK (putK [] (Sum.inr (S NOTc)) (V.int 1)) (Sum.inr (S IMPc)) (V.int 2))) := upd_same
    have k1 : ∀ b x, H b = some x → upd (upd H p (.dK [])) p (.dK (mergeK [] [(Sum.inr (S NOTc), V.int 1), (Sum.inr (S IMPc), V.int 2)])) b = some x := fun b x e => by
      have nb : b ≠ p := ne_of_none e hp
      rw [upd_ne nb, upd_ne nb]
      exact e
    generalize upd (upd H p (.dK [])) p (.dK (mergeK [] [(Sum.inr (S NOTc), V.int 1), (Sum.inr (S IMPc), V.int 2)])) = H1 at e1 k1 ⊢
    have hla1 := k1 _ _ hla
    have ht1 : GxR.TabG H1 T.P_ao := by
      obtain ⟨ps, hq, hq2⟩ := ht
      exact ⟨ps, k1 _ _ hq, hq2⟩
    walk_at "w"
    refine w_tdget2 ?_
    walk_at "w"
    refine ⟨.inl ⟨_, .inl e1⟩, ?_⟩
    walk_at "w"
    refine ⟨_, DGet.k (k := Sum.inr (S op)) e1, ?_⟩
    have eN : (valV (putK (putK [] (Sum.inr (S NOTc) : Key) (V.int 1)) (Sum.inr (S IMPc)) (V.int 2)) (Sum.inr (S op))).getD (V.int ((ls.map fun l => V.str (S l)).length : Int)) = V.int (needN op ls.length : Int) := by
      rw [valV_put, valV_put]
      unfold needN
      by_cases h1 : op = NOTc
      · subst h1
        rw [if_neg (fun z => by injection z with z; exact absurd (S_inj z) (by decide)), if_pos rfl, if_pos rfl]
        rfl
      · rw [if_neg h1]
        by_cases h2 : op = IMPc
        · subst h2
          rw [if_pos rfl, if_pos rfl]
          rfl
        · rw [if_neg (fun z => by injection z with z; exact h2 (S_inj z)), if_neg (fun z => by injection z with z; exact h1 (S_inj z)), if_neg h2, hl1]
          rfl
    rw [eN]
    walk_at "w"
    by_cases hc : ls.length = needN op ls.length
    · refine Z.w_iteT (by rw [hl1]; exact congrArg Int.ofNat hc) ?_
      walk_at "w"
      refine ⟨la, ls, TRUTHc, rfl, hla1, ht1, fun H' t' => ?_⟩
      have q := h H' (fun b hb x e => by rw [t'.2 b hb]; exact k1 b x e) t'.1
      unfold conB at q
      rw [decide_eq_true hc, Bool.true_and] at q
      exact q
    · refine Z.w_iteF (by rw [hl1]; exact fun z => hc (Int.ofNat.inj z)) ?_
      have q := h H1 (fun b hb x e => k1 b x e) ht1
      unfold conB at q
      rw [decide_eq_false hc, Bool.false_and] at q
      exact q
end
end L

namespace L
open PySem PySem.Spec PyProof.Rows L2 Z M
open _root_.SX (S S_len S_inj)
def CALL : List Nat := [99, 97, 108, 108]
def IFc : List Nat := [105, 102]
/-- the sort of a node of that op over parts of those sorts, if it fits -/
def mkSort (fs : List FnRow) (op : List Nat) (val : V) (ls : List (List Nat)) (o : Option (List Nat)) : Prop :=
  (op = CALL ∧ ∃ (f : List Nat) (as : List (List Nat)) (r : List Nat), val = .str (S f) ∧ fs.lookup (S f) = some (as.map S, S r) ∧ (∀ l ∈ as, PyData.canLay0 (.str (S l)) = true) ∧ ls = as ∧ o = some r) ∨
  (op = IFc ∧ ∃ a, ls = [TRUTHc, a, a] ∧ o = some a) ∨
  (∃ r, (op, r) ∈ d_LEAF_SORTS ∧ ls = [] ∧ o = some r) ∨
  (∃ r, (op, r) ∈ d_SUMS ∧ sumB op ls r = true ∧ o = some r) ∨
  (op ∈ w_CONNECTIVES ∧ conB op ls = true ∧ o = some TRUTHc) ∨
  (op ∈ [EQU, DIST, [109, 111, 115, 116], [108, 101, 115, 115]] ∧ cmpB op ls = true ∧ o = some TRUTHc)
section
variable {K : PySem.W.Frag} {H : Hp}
theorem dp_strs : ∀ ls : List (List Nat), DpAll K H (ls.map fun l => V.str (S l)) (ls.map fun l => PyData.str (S l))
  | [] => .nil
  | n :: ns => .cons (.str _) (dp_strs ns)
theorem lay_strs : ∀ ls : List (List Nat), (∀ l ∈ ls, PyData.canLay0 (.str (S l)) = true) → PyData.canLayAll0 (ls.map fun l => PyData.str (S l)) = true
  | [], _ => rfl
  | n :: ns, h => by
    rw [List.map_cons, PyData.canLayAll0, lay_strs ns fun l hl => h l (List.mem_cons_of_mem _ hl), Bool.and_true]
    exact h n List.mem_cons_self
theorem dep_strs : ∀ ls : List (List Nat), PyData.depthAll (ls.map fun l => PyData.str (S l)) ≤ 1
  | [] => by simp [PyData.depthAll]
  | n :: ns => by
    have := dep_strs ns
    simp only [List.map_cons, PyData.depthAll, PyData.depth]
    omega
theorem eqv_strs : ∀ ls : List (List Nat), PyData.eqvAll (ls.map fun l => PyData.str (S l)) (ls.map fun l => PyData.str (S l)) = true
  | [] => by simp [PyData.eqvAll]
  | n :: ns => by
    rw [List.map_cons, PyData.eqvAll, eqv_strs ns]
    simp [PyData.eqv]
theorem shp_strs (ls : List (List Nat)) (h : ∀ l ∈ ls, PyData.canLay0 (.str (S l)) = true) : SeqAt.shaped (.tuple (ls.map fun l => PyData.str (S l))) = true := by
  have h1 := lay_strs ls h
  have h2 := dep_strs ls
  unfold SeqAt.shaped
  simp [PyData.canLay0, PyData.depth, h1]
  omega
theorem eq_strsT {a b : Addr} {ls : List (List Nat)} {Q : VK} (ho : ∀ l ∈ ls, PyData.canLay0 (.str (S l)) = true) (ha : SqT K H a (ls.map fun l => V.str (S l))) (hb : SqT K H b (ls.map fun l => V.str (S l))) (q : Q (.bl true) H) : rEqD K (.ref a) (.ref b) H Q :=
  ⟨.tuple _, .tuple _, .tup ha (dp_strs ls), .tup hb (dp_strs ls), shp_strs ls ho, shp_strs ls ho, by
    rw [show PyData.eqv (.tuple (ls.map fun l => PyData.str (S l))) (.tuple (ls.map fun l => PyData.str (S l))) = true from by rw [PyData.eqv]; exact eqv_strs ls]
    exact q⟩
end
section
variable {P : Program} {w : World} {K : PySem.W.Frag} {mg : Str → Option Value} {base : Heap}
/-- a sort that is made: the parts fit -/
def spSM (C Pt : Addr) : Sp := fun vs H Q _ => ∃ (o : Addr) (t : SgO) (ss : List Str) (fs : List FnRow) (op : List Nat) (val : V) (ls : List (List Nat)) (la : Addr) (r : List Nat), vs = [.ref o, .str (S op), val, .ref la] ∧ SigAt C H o t ss fs ∧ H la = some (.lst (ls.map fun l => V.str (S l))) ∧ ls.length ≤ 1000 ∧ GxR.TabG H Pt ∧ mkSort fs op val ls (some r) ∧
  ∀ H', (∀ b, b ≠ Pt → ∀ x, H b = some x → H' b = some x) → GxR.TabG H' Pt → Q (.str (S r)) H'
theorem ok_sortMade (T : Txt K mg) (W : Tw K mg T w) (TB : GxR.TabB base mg T.c_ao T.P_ao) : FnOk P w K mg base CX0 4 T.f_sort_made T.fd_sort_made ["signature", "op", "value", "sorts"] (spSM T.C_Signature T.P_ao) := by
  have G_Signature_arguments_of := ok_args (P := P) (w := w) (base := base) T
  have G_Signature_result_of := ok_res (P := P) (w := w) (base := base) T
  have G_sum_fits := ok_sumF (P := P) (base := base) T W TB
  have G_connective_fits := ok_conF (P := P) (w := w) (base := base) T TB
  have G_comparison_fits := ok_cmpF (P := P) (w := w) (base := base) T TB
  obtain ⟨lk, ln, LD⟩ := W.leaf
  obtain ⟨sk, sn, SD⟩ := W.sums
  refine T.F_sort_made.ok sc_sort_made (fun vs H Q E h => ?_) (fun cdv A outer s H vs Q E hr h => ?_)
  · obtain ⟨o, t, ss, fs, op, val, ls, la, r, rfl, _⟩ := h
    rfl
  · obtain ⟨o, t, ss, fs, op, val, ls, la, r, rfl, sg, hla, hll, ht, hm, h⟩ := h
    refine ⟨_, (pss_cons (ps_if (pt_cmpR op_eq (pv 1) (MT.pe_strS (l := [99, 97, 108, 108]) (by decide +kernel)) (nomark _)) (pss_cons (ps_set (i := 4) sc_sort_made.nd rfl (.inl rfl) (pe_cmpR (op_eqD hr.units) (pe_callTy call_tuple_of (by rfl) T.m_tuple (by decide +kernel) (pa_cons (pv 3) pa_nil)) (pe_meth (pv 0) T.cl_Signature T.M_Signature_arguments_of G_Signature_arguments_of (hr.mono (by first | decide | omega)) T.b_Signature_arguments_of .nil pass0 (pa_cons (pv 2) pa_nil)) (nomark _)))
 (pss_one (ps_ret (pe_ifExp (pt_val (pv 4)) (pe_meth (pv 0) T.cl_Signature T.M_Signature_result_of G_Signature_result_of (hr.mono (by first | decide | omega)) T.b_Signature_result_of .nil pass0 (pa_cons (pv 2) pa_nil)) pe_non)))) pss_nil)
 (pss_cons (ps_if (pt_cmpR op_eq (pv 1) (MT.pe_strS (l := [105, 102]) (by decide +kernel)) (nomark _)) (pss_cons (ps_set (i := 4) sc_sort_made.nd rfl (.inl rfl) (pe_and (pe_cmpR op_eq (pe_callB call_len_seq (by rfl) T.m_len (by decide +kernel) (pa_cons (pv 3) pa_nil)) pe_int (nomark _)) (pe_and (pe_cmpR op_eq (pe_ix ix_list (pv 3) pe_int (fun _ _ => rfl)) (MT.pe_strS (l := [116, 114, 117, 116, 104]) (by decide +kernel)) (nomark _)) (pe_one (pe_cmpR op_eq (pe_ix ix_list (pv 3) pe_int (fun _ _ => rfl)) (pe_ix ix_list (pv 3) pe_int (fun _ _ => rfl)) (nomark _))))))
 (pss_one (ps_ret (pe_ifExp (pt_val (pv 4)) (pe_ix ix_list (pv 3) pe_int (fun _ _ => rfl)) pe_non)))) pss_nil)
 (pss_cons (ps_if (pt_cmpR (op_in_kd LD) (pv 1) (pe_glob (v := .ref T.A_LEAF_SORTS) (by rfl) T.g_LEAF_SORTS rfl) rfl) (pss_one (ps_ret (pe_ifExp (pt_not (pt_truth (pv 3) (by intro _; rfl))) (pe_ix ix_kdict (pe_glob (v := .ref T.A_LEAF_SORTS) (by rfl) T.g_LEAF_SORTS rfl) (pv 1) (fun _ _ => rfl)) pe_non))) pss_nil)
 (pss_cons (ps_if (pt_cmpR (op_in_kd SD) (pv 1) (pe_glob (v := .ref T.A_SUMS) (by rfl) T.g_SUMS rfl) rfl) (pss_one (ps_ret (pe_ifExp (pt_val (pe_call G_sum_fits (hr.mono (by first | decide | omega)) (by rfl) T.g_sum_fits T.F_sum_fits.kp T.b_sum_fits .nil pass0 (pa_cons (pv 1) (pa_cons (pv 3) pa_nil)))) (pe_ix ix_kdict (pe_glob (v := .ref T.A_SUMS) (by rfl) T.g_SUMS rfl) (pv 1) (fun _ _ => rfl)) pe_non))) pss_nil)
 (pss_cons (ps_if (pt_cmpR op_in_seq (pv 1) (pe_glob (v := .ref T.A_CONNECTIVES) (by rfl) T.g_CONNECTIVES rfl) rfl) (pss_one (ps_ret (pe_ifExp (pt_val (pe_call G_connective_fits (hr.mono (by first | decide | omega)) (by rfl) T.g_connective_fits T.F_connective_fits.kp T.b_connective_fits .nil pass0 (pa_cons (pv 1) (pa_cons (pv 3) pa_nil)))) (MT.pe_strS (l := [116, 114, 117, 116, 104]) (by decide +kernel)) pe_non))) pss_nil)
 (pss_one (ps_ret (pe_ifExp (pt_val (pe_call G_comparison_fits (hr.mono (by first | decide | omega)) (by rfl) T.g_comparison_fits T.F_comparison_fits.kp T.b_comparison_fits .nil pass0 (pa_cons (pv 1) (pa_cons (pv 3) pa_nil)))) (MT.pe_strS (l := [116, 114, 117, 116, 104]) (by decide +kernel)) pe_non)))))))), ?_⟩
    refine Z.w_start (σ' := [some (.ref o), some (.str (S op)), some val, some (.ref la), none]) rfl ?_
    rcases hm with ⟨rfl, f, as, r', rfl, hl, hok, rfl, er⟩ | ⟨rfl, a, rfl, er⟩ | ⟨r', hm, rfl, er⟩ | ⟨r', hm, hs, er⟩ | ⟨hm, hs, er⟩ | ⟨hm, hs, er⟩
    · obtain rfl := Option.some.inj er
      unfold CALL
      walk_at "w"
      refine ⟨la, _, rfl, .inl ⟨.inl (.inl hla), fun p hp => ?_⟩⟩
      have sm : Same H (upd H p (.tup (ls.map fun l => V.str (S l)))) := same_of (Same.refl _) hp
      have sg2 := sg.same sm
      have ep : upd H p (.tup (ls.map fun l => V.str (S l))) p = some (.tup (ls.map fun l => V.str (S l))) := upd_same
      generalize upd H p (.tup (ls.map fun l => V.str (S l))) = H1 at sm sg2 ep ⊢
      walk_at "w"
      refine w_meth0 sg2.obj rfl (by rfl) ?_
      walk_at "w"
      refine ⟨o, t, ss, fs, S f, ls.map S, S r, rfl, sg2, hl, fun a ea => ?_⟩
      rw [List.map_map] at ea
      refine eq_strsT hok (.inl (.inl ep)) (.inl (.inl ea)) ?_
      walk_at "w"
      refine w_meth0 sg2.obj rfl (by rfl) ?_
      walk_at "w"
      refine ⟨o, t, ss, fs, S f, ls.map S, S r, rfl, sg2, hl, h _ (fun b _ x e => sm _ _ e) ?_⟩
      obtain ⟨ps, hq, hq2⟩ := ht
      exact ⟨ps, sm _ _ hq, hq2⟩
    · obtain rfl := Option.some.inj er
      unfold IFc
      walk_at "w"
      refine Z.w_iteT trivial ?_
      refine Z.w_op (Z.w_var rfl (Z.w_c (Z.w_ixH hla (atI_nat (j := 1) rfl) ?_)))
      exact h H (fun b _ x e => e) ht
    · obtain rfl := Option.some.inj er
      have hne : op ≠ [99, 97, 108, 108] ∧ op ≠ [105, 102] := by
        have : ∀ q ∈ d_LEAF_SORTS, q.1 ≠ [99, 97, 108, 108] ∧ q.1 ≠ [105, 102] := by decide
        exact this _ hm
      obtain ⟨tk, htk⟩ := T.n_LEAF_SORTS _ hm
      walk_at "w"
      refine Z.w_iteF hne.1 ?_
      walk_at "w"
      refine Z.w_iteF hne.2 ?_
      walk_at "w"
      refine ⟨S op, _, rfl, rfl, htk, ?_⟩
      rw [show (some (Value.str (S r) tk)).isSome = true from rfl]
      walk_at "w"
      refine ⟨_, .inl ⟨[], .inl (.inl hla), rfl⟩, ?_⟩
      refine Z.w_ibT ?_
      walk_at "w"
      exact ⟨T.A_LEAF_SORTS, S op, .str (S r), rfl, rfl, ⟨lk, ln, _, LD.at_, LD.lit, htk, ⟨tk, rfl⟩⟩, h H (fun b _ x e => e) ht⟩
    · obtain rfl := Option.some.inj er
      have hne : op ≠ [99, 97, 108, 108] ∧ op ≠ [105, 102] ∧ op ∈ x_LEAF_SORTS := by
        have : ∀ q ∈ d_SUMS, q.1 ≠ [99, 97, 108, 108] ∧ q.1 ≠ [105, 102] ∧ q.1 ∈ x_LEAF_SORTS := by decide
        exact this _ hm
      obtain ⟨tk, htk⟩ := T.n_SUMS _ hm
      walk_at "w"
      refine Z.w_iteF hne.1 ?_
      walk_at "w"
      refine Z.w_iteF hne.2.1 ?_
      walk_at "w"
      refine ⟨S op, _, rfl, rfl, T.m_LEAF_SORTS _ hne.2.2, ?_⟩
      rw [show (none : Option Value).isSome = false from rfl]
      walk_at "w"
      refine ⟨S op, _, rfl, rfl, htk, ?_⟩
      rw [show (some (Value.str (S r) tk)).isSome = true from rfl]
      walk_at "w"
      refine ⟨la, ls, op, r, rfl, hm, hla, hll, ht, fun H' k t' => ?_⟩
      rw [hs]
      walk_at "w"
      exact ⟨T.A_SUMS, S op, .str (S r), rfl, rfl, ⟨sk, sn, _, SD.at_, SD.lit, htk, ⟨tk, rfl⟩⟩, h H' k t'⟩
    · obtain rfl := Option.some.inj er
      have hne : op ≠ [99, 97, 108, 108] ∧ op ≠ [105, 102] ∧ op ∈ x_LEAF_SORTS ∧ op ∈ x_SUMS := by
        have : ∀ q ∈ w_CONNECTIVES, q ≠ [99, 97, 108, 108] ∧ q ≠ [105, 102] ∧ q ∈ x_LEAF_SORTS ∧ q ∈ x_SUMS := by decide
        exact this _ hm
      walk_at "w"
      refine Z.w_iteF hne.1 ?_
      walk_at "w"
      refine Z.w_iteF hne.2.1 ?_
      walk_at "w"
      refine ⟨S op, _, rfl, rfl, T.m_LEAF_SORTS _ hne.2.2.1, ?_⟩
      rw [show (none : Option Value).isSome = false from rfl]
      walk_at "w"
      refine ⟨S op, _, rfl, rfl, T.m_SUMS _ hne.2.2.2, ?_⟩
      rw [show (none : Option Value).isSome = false from rfl]
      walk_at "w"
      refine w_inS (T.z_CONNECTIVES _) ?_
      rw [decide_eq_true hm]
      walk_at "w"
      refine ⟨la, ls, op, rfl, hla, hll, ht, fun H' k t' => ?_⟩
      rw [hs]
      walk_at "w"
      exact h H' k t'
    · obtain rfl := Option.some.inj er
      have hne : op ≠ [99, 97, 108, 108] ∧ op ≠ [105, 102] ∧ op ∈ x_LEAF_SORTS ∧ op ∈ x_SUMS ∧ op ∉ w_CONNECTIVES := by
        have : ∀ q ∈ [EQU, DIST, [109, 111, 115, 116], [108, 101, 115, 115]], q ≠ [99, 97, 108, 108] ∧ q ≠ [105, 102] ∧ q ∈ x_LEAF_SORTS ∧ q ∈ x_SUMS ∧ q ∉ w_CONNECTIVES := by decide
        exact this _ hm
      walk_at "w"
      refine Z.w_iteF hne.1 ?_
      walk_at "w"
      refine Z.w_iteF hne.2.1 ?_
      walk_at "w"
      refine ⟨S op, _, rfl, rfl, T.m_LEAF_SORTS _ hne.2.2.1, ?_⟩
      rw [show (none : Option Value).isSome = false from rfl]
      walk_at "w"
      refine ⟨S op, _, rfl, rfl, T.m_SUMS _ hne.2.2.2.1, ?_⟩
      rw [show (none : Option Value).isSome = false from rfl]
      walk_at "w"
      refine w_inS (T.z_CONNECTIVES _) ?_
      rw [decide_eq_false hne.2.2.2.2]
      walk_at "w"
      refine ⟨la, ls, op, rfl, hla, hll, ht, fun H' k t' => ?_⟩
      rw [hs]
      walk_at "w"
      exact h H' k t'
end
end L

namespace STI
open PySem PySem.Spec PyProof.Rows L2
section
variable {X : Cx}
/-- sorted(t), t a tuple of ints -/
def rSortedTI (K : PySem.W.Frag) : List V → Hp → VK → Prop := fun vs H Q => ∃ (a : Addr) (ns : List Int), vs = [V.ref a] ∧ (SqL K H a (ns.map V.int) ∨ SqT K H a (ns.map V.int)) ∧
  ∀ (ns' : List Int) (p : Addr), ns'.Perm ns → ns'.Pairwise (· ≤ ·) → H p = none → Q (.ref p) (upd H p (.lst (ns'.map V.int)))
theorem cr_sortedTI : CallR X (.builtin "sorted") (rSortedTI X.K) := by
  intro pins s σ H vs us Q I r h
  obtain ⟨a, ns, rfl, hs | hs, q⟩ := h
  · exact cr_sortedI pins s σ H _ us Q I r ⟨a, ns, rfl, hs, q⟩
  obtain ⟨its, rv, ⟨o, ho, hc, n, hd⟩, hz⟩ := I.tuple hs
  rw [Vals.ref1 r]
  have hi := rv.ints
  have hlen : its.length ≤ sizeLine := by rw [← rv.length]; exact hz
  refine Calls.call_function_entry PyProof.Rows.kind_sorted PyProof.Rows.plain_sorted PyProof.Rows.entry_sorted (PyProof.Rows.args_sorted1 _) ?_
  unfold Builtin.«sorted»
  refine wpAny_bind (m := checkCount "sorted" 1 1 _) (wpAny_pure ?_)
  refine wpAny_bind (wpAny_collect_seq a (.inr rfl) ho hc hd (fun h' hk => ?_) (by simpa using hlen))
  have I1 : Inv X pins σ H { s with heap := h' } := I.kept hk
  rw [show its.toArray.toList = its by simp]
  refine wpAny_bind (wpAny_newList ?_ hlen)
  have hoL : (h'.push (seqObj "list" its.toArray 0)).get? h'.objs.size = some (seqObj "list" its.toArray 0) := Heap.get?_push_size _ rfl
  show wpAny _ _ _ _ _ { s with heap := h'.push (seqObj "list" its.toArray 0) }
  refine wpAny_bind (wpAny_holding (wpAny_call_entry PyProof.Rows.slot_list_sort ⟨_, hoL, rfl⟩ PyProof.Rows.entry_list_sort
    (SrtO.list_sort_ord (s := { s with heap := h'.push (seqObj "list" its.toArray 0) }) SrtO.swo_int hoL hlen (fun h2 => SrtO.ints_sortable hi h2) fun out h1 h2 => ⟨_, rfl, ?_⟩) (PyProof.Rows.args_list_sort _)))
  obtain ⟨k1, k2, k3⟩ := SrtO.ints_out hi h1 h2
  obtain ⟨e', he'⟩ := PyProof.Rows.sortedHeap_at (vs := its) (out := out.toArray) hoL
  have hlo : ((out.map SrtO.iv).map V.int).length ≤ sizeLine := by
    rw [List.length_map, k2.length_eq]
    rw [List.length_map] at hz
    exact hz
  refine wpAny_pure ⟨_, rfl, .ref h'.objs.size, upd H h'.objs.size (.lst ((out.map SrtO.iv).map V.int)), I1.laid (t' := s.toks) (fun b u e => ?_) (Nat.le_refl _)
    (show ObjOk X.prog X.w _ _ _ (.lst ((out.map SrtO.iv).map V.int)) from ⟨hlo, out, e', vals_of_ints k1, he'⟩), rfl, q _ _ k2 k3 (I1.hok.fresh (Nat.le_refl _))⟩
  have hb : b < h'.objs.size := Heap.lt_size e
  rw [PyProof.Rows.sortedHeap_old (Nat.ne_of_lt hb) (by rw [size_push']; exact Nat.lt_succ_of_lt hb)]
  exact Heap.get?_push_of_some _ e
end
end STI

namespace L
open PySem PySem.Spec PyProof.Rows L2 Z M
open _root_.SX (S S_len S_inj)
/-- the parts as a node keeps them -/
def Kept (op : List Nat) (ns ms : List Int) : Prop := if op = EQU then ms.Perm ns ∧ ms.Pairwise (· ≤ ·) else ms = ns
section
variable {P : Program} {w : World} {K : PySem.W.Frag} {mg : Str → Option Value} {base : Heap}
def spParts : Sp := fun vs H Q _ => ∃ (op : List Nat) (a : Addr) (ns : List Int), vs = [.str (S op), .ref a] ∧ (H a = some (.lst (ns.map V.int)) ∨ H a = some (.tup (ns.map V.int))) ∧ ns.length ≤ 50 ∧
  ∀ p H' ms, Same H H' → H' p = some (.tup (ms.map V.int)) → Kept op ns ms → Q (.ref p) H'
theorem ok_parts (T : Txt K mg) : FnOk P w K mg base CX0 1 T.f_parts_kept T.fd_parts_kept ["op", "parts"] spParts := by
  refine T.F_parts_kept.ok sc_parts_kept (fun vs H Q E h => ?_) (fun cdv A outer s H vs Q E hr h => ?_)
  · obtain ⟨op, a, ns, rfl, _⟩ := h
    rfl
  · obtain ⟨op, a, ns, rfl, ea, hl, h⟩ := h
    have seq : SqL K H a (ns.map V.int) ∨ SqT K H a (ns.map V.int) := by
      rcases ea with e | e
      · exact .inl (.inl (.inl e))
      · exact .inr (.inl (.inl e))
    refine ⟨_, (pss_one (ps_ret (pe_ifExp (pt_cmpR op_eq (pv 0) (MT.pe_strS (l := [101, 113, 117, 97, 108]) (by decide +kernel)) (nomark _)) (pe_callTy call_tuple_of (by rfl) T.m_tuple (by decide +kernel) (pa_cons (pe_callB STI.cr_sortedTI (by rfl) T.m_sorted (by decide +kernel) (pa_cons (pv 1) pa_nil)) pa_nil)) (pe_callTy call_tuple_of (by rfl) T.m_tuple (by decide +kernel) (pa_cons (pv 1) pa_nil))))), ?_⟩
    refine Z.w_start (σ' := [some (.str (S op)), some (.ref a)]) rfl ?_
    walk_at "w"
    by_cases hop : op = EQU
    · refine Z.w_iteT hop ?_
      walk_at "w"
      refine ⟨a, ns, rfl, seq, fun ms p hpm hpw hp => ?_⟩
      have kp : Kept op ns ms := by unfold Kept; rw [if_pos hop]; exact ⟨hpm, hpw⟩
      have s1 : Same H (upd H p (.lst (ms.map V.int))) := same_of (Same.refl _) hp
      have e1 : upd H p (.lst (ms.map V.int)) p = some (.lst (ms.map V.int)) := upd_same
      generalize upd H p (.lst (ms.map V.int)) = H1 at s1 e1 ⊢
      walk_at "w"
      exact ⟨p, _, rfl, .inl ⟨.inl (.inl e1), fun t ht => h t _ ms (same_of s1 ht) upd_same kp⟩⟩
    · refine Z.w_iteF hop ?_
      have kp : Kept op ns ns := by unfold Kept; rw [if_neg hop]
      walk_at "w"
      rcases ea with e | e
      · exact ⟨a, _, rfl, .inl ⟨.inl (.inl e), fun p hp => h p _ ns (same_of (Same.refl _) hp) upd_same kp⟩⟩
      · exact ⟨a, _, rfl, .inr ⟨.inl (.inl e), h a H ns (Same.refl _) e kp⟩⟩
end
end L

namespace L
open PySem PySem.Spec PyProof.Rows L2 Z M
/-! the object of the bank: its nodes (keys, sorts) in their order -/
structure BkO where
  dx : Addr
  sg : Addr
  ln : Addr
  ls : Addr
  dn : Addr
def BkO.fs (t : BkO) : List (Str × V) := [("signature", .ref t.sg), ("_nodes", .ref t.ln), ("_sorts", .ref t.ls), ("_numbers", .ref t.dn)]
abbrev BRow := NestedKey × Str
/-- the number of a node: its place, from one -/
def numOf (rs : List BRow) (k : NestedKey) : Option V := ((rs.map (·.1)).idxOf? k).map fun i => V.int ((i : Int) + 1)
structure BkAt (P : Program) (w : World) (CB : Addr) (H : Hp) (o : Addr) (t : BkO) (us : List Addr) (rs : List BRow) : Prop where
  obj : H o = some (.ins CB t.dx t.fs)
  ne : t.ln ≠ t.ls
  ln : H t.ln = some (.lst (us.map V.ref))
  ls : H t.ls = some (.lst (rs.map fun r => V.str r.2))
  len : us.length = rs.length
  nk : ∀ (i : Nat) (r : BRow) (a : Addr), rs[i]? = some r → us[i]? = some a → ND.nk H r.1 (.ref a) ∧ r.1.depth ≤ 8
  nums : ∃ kvs, ND.ND P w H t.dn kvs ∧ kvs.length = rs.length ∧ ∀ k, valV kvs k = numOf rs k
theorem BkAt.same {P : Program} {w : World} {CB : Addr} {H H' : Hp} {o : Addr} {t : BkO} {us : List Addr} {rs : List BRow} (h : BkAt P w CB H o t us rs) (s : Same H H') : BkAt P w CB H' o t us rs := by
  obtain ⟨kvs, n1, n2, n3⟩ := h.nums
  exact ⟨s _ _ h.obj, h.ne, s _ _ h.ln, s _ _ h.ls, h.len, fun i r a e1 e2 => ⟨ND.nk_keep (fun b ys e => s _ _ e) _ _ (h.nk i r a e1 e2).1, (h.nk i r a e1 e2).2⟩, kvs, n1.keep (fun o e => s _ _ e) (fun b ys e => s _ _ e), n2, n3⟩
section
variable {P : Program} {w : World} {K : PySem.W.Frag} {mg : Str → Option Value} {base : Heap}
def spHas (P : Program) (w : World) (CB : Addr) : Sp := fun vs H Q _ => ∃ (o : Addr) (t : BkO) (us : List Addr) (rs : List BRow) (n : Int), vs = [.ref o, .int n] ∧ BkAt P w CB H o t us rs ∧ Q (.bl (decide (1 ≤ n ∧ n ≤ rs.length))) H
theorem ok_has (T : Txt K mg) : FnOk P w K mg base CX0 1 T.f_Bank_has T.fd_Bank_has ["self", "number"] (spHas P w T.C_Bank) := by
  refine T.F_Bank_has.ok sc_Bank_has (fun vs H Q E h => ?_) (fun cdv A outer s H vs Q E hr h => ?_)
  · obtain ⟨o, t, us, rs, n, rfl, _⟩ := h
    rfl
  · obtain ⟨o, t, us, rs, n, rfl, bk, h⟩ := h
    have hln := bk.ln
    have hul : (us.map V.ref).length = rs.length := by rw [List.length_map]; exact bk.len
    refine ⟨_, (pss_one (ps_ret (pe_chain op_le op_le pe_int (pv 1) (pe_callB call_len_seq (by rfl) T.m_len (by decide +kernel) (pa_cons (pe_fld (pv 0) rfl) pa_nil))))), ?_⟩
    refine Z.w_start (σ' := [some (.ref o), some (.int n)]) rfl ?_
    walk_at "w"
    by_cases e : (1 : Int) ≤ n
    · rw [decide_eq_true e, if_pos rfl]
      walk_at "w"
      refine w_fldT T.cl_Bank T.n_Bank__nodes bk.obj rfl ?_
      walk_at "w"
      rw [hul]
      have e2 : decide (n ≤ (rs.length : Int)) = decide (1 ≤ n ∧ n ≤ (rs.length : Int)) := by simp [e]
      rw [e2]
      exact h
    · rw [decide_eq_false e, if_neg (by decide)]
      rw [decide_eq_false (fun q => e q.1)] at h
      exact h
def spBadNode (C : Addr) : Sp := fun vs H Q E => ∃ i : Int, i.natAbs < 10 ^ 60 ∧ X2.InitEnd C "number" (.int i) vs H Q E
theorem ok_badnode (T : Txt K mg) : FnOk P w K mg base CX0 1 T.f_BadNode_init T.fd_BadNode_init ["self", "number"] (spBadNode T.C_BadNode) := by
  refine T.F_BadNode_init.ok sc_BadNode_init (fun vs H Q E h => ?_) (fun cdv A outer s H vs Q E hr h => ?_)
  · obtain ⟨i, _, a, rfl, _⟩ := h
    rfl
  · obtain ⟨i, hi, a, rfl, ha, h⟩ := h
    refine ⟨_, (pss_cons (ps_expr (X2.pe_binit (by rfl) T.c_PaperError T.xb_PaperError (pa_cons (pv 0) (pa_cons (pe_joined (PJ.cons (MT.pe_strS (l := lit_0) (by decide +kernel)) (PJ.cons (pe_fmtR (pv 1)) PJ.nil))) pa_nil))))
 (pss_one (ps_ost (pv 0) (pv 1)))), ?_⟩
    refine Z.w_start (σ' := [some (.ref a), some (.int i)]) rfl ?_
    have hl := X2.nz_len60 hi
    refine w_seq (w_drop (X2.w_veI ?_))
    walk_at "w"
    refine X2.w_fmtI1 rfl hi ?_
    have h18 : lit_0.length = 17 := rfl
    refine X2.use_j (by rw [List.nil_append, List.length_append]; omega) ?_
    walk_at "w"
    refine X2.use_veI T.xo_BadNode.ox ha ?_
    exact X2.w_ost1 rfl rfl T.xo_BadNode.ox T.xo_BadNode.no ha h
theorem use_badnode {C : Addr} {i : Int} (hi : i.natAbs < 10 ^ 60) (vs : List V) (H : Hp) (Q : VK) (E : XK) (h : X2.InitEnd C "number" (.int i) vs H Q E) : spBadNode C vs H Q E := ⟨i, hi, h⟩
/-- a refusal -/
def Refu (C : Addr) (i : Int) (H : Hp) (E : XK) : Prop := ∀ d H', Same H H' → H' d = some (.xd [("number", .int i)]) → E (.ref C) (some d) H'
/-- the sort of a node, or BadNode -/
def spSortOf (P : Program) (w : World) (CB CN : Addr) : Sp := fun vs H Q E => ∃ (o : Addr) (t : BkO) (us : List Addr) (rs : List BRow) (n : Int), vs = [.ref o, .int n] ∧ BkAt P w CB H o t us rs ∧ n.natAbs < 10 ^ 60 ∧
  (∀ (i : Nat) (r : BRow), n = (i : Int) + 1 → rs[i]? = some r → Q (.str r.2) H) ∧ (¬ (1 ≤ n ∧ n ≤ rs.length) → Refu CN n H E)
theorem ok_sortOf (T : Txt K mg) : FnOk P w K mg base (L2N.CX P w) 3 T.f_Bank_sort_of T.fd_Bank_sort_of ["self", "number"] (spSortOf P w T.C_Bank T.C_BadNode) := by
  have G_Bank_has := ok_has (P := P) (w := w) (base := base) T
  have G_BadNode_init := ok_badnode (P := P) (w := w) (base := base) T
  refine X2.okN T.F_Bank_sort_of sc_Bank_sort_of (fun vs H Q E h => ?_) (fun cdv A outer s H vs Q E hr h => ?_)
  · obtain ⟨o, t, us, rs, n, rfl, _⟩ := h
    rfl
  · obtain ⟨o, t, us, rs, n, rfl, bk, hn60, h1, h2⟩ := h
    have hls := bk.ls
    refine ⟨_, (pss_cons (ps_if (pt_not (pt_val (pe_meth (pv 0) T.cl_Bank T.M_Bank_has G_Bank_has (hr.mono (by first | decide | omega)) T.b_Bank_has .nil pass0 (pa_cons (pv 1) pa_nil)))) (pss_one (L2N.ps_raise rfl (L2N.takes_of rfl rfl rfl rfl) (X2.pmkN T.xo_BadNode.ox T.xo_BadNode.ii T.xo_BadNode.ti G_BadNode_init (hr.mono (by first | decide | omega)) T.b_BadNode_init pass0 (by rfl) T.c_BadNode (pa_cons (pv 1) pa_nil)))) pss_nil)
 (pss_one (ps_ret (pe_ix ix_list (pe_fld (pv 0) rfl) (pe_op op_sub (pv 1) pe_int) (fun _ _ => rfl))))), ?_⟩
    refine Z.w_start (σ' := [some (.ref o), some (.int n)]) rfl ?_
    walk_at "w"
    refine w_meth0 bk.obj rfl (by rfl) ?_
    walk_at "w"
    refine ⟨o, t, us, rs, _, rfl, bk, ?_⟩
    by_cases hin : (1 : Int) ≤ n ∧ n ≤ rs.length
    · obtain ⟨i, rfl⟩ : ∃ i : Nat, n = (i : Int) + 1 := ⟨(n - 1).toNat, by omega⟩
      have hi : rs[i]? = some rs[i] := List.getElem?_eq_getElem (by omega)
      have hat : atI (rs.map fun r => V.str r.2) ((i : Int) + 1 - 1) = some (.str rs[i].2) := by
        rw [show (i : Int) + 1 - 1 = (i : Int) by omega]
        exact atI_nat (by rw [List.getElem?_map, hi]; rfl)
      have q := h1 i _ rfl hi
      rw [decide_eq_true hin]
      refine ⟨true, rfl, ?_⟩
      rw [if_neg (by decide)]
      walk_at "w"
      refine w_fldT T.cl_Bank T.n_Bank__sorts bk.obj rfl ?_
      walk_at "w"
      exact q
    · rw [decide_eq_false hin]
      refine ⟨false, rfl, ?_⟩
      rw [if_pos (by decide)]
      walk_at "w"
      refine X2.w_mkO ?_
      walk_at "w"
      exact X2.use_mk (use_badnode hn60) fun d hd => h2 hin _ _ (same_of (Same.refl _) hd) upd_same
/-- a node, or BadNode -/
def spNode (P : Program) (w : World) (CB CN : Addr) : Sp := fun vs H Q E => ∃ (o : Addr) (t : BkO) (us : List Addr) (rs : List BRow) (n : Int), vs = [.ref o, .int n] ∧ BkAt P w CB H o t us rs ∧ n.natAbs < 10 ^ 60 ∧
  (∀ (i : Nat) (a : Addr), n = (i : Int) + 1 → us[i]? = some a → Q (.ref a) H) ∧ (¬ (1 ≤ n ∧ n ≤ rs.length) → Refu CN n H E)
theorem ok_node (T : Txt K mg) : FnOk P w K mg base (L2N.CX P w) 3 T.f_Bank_node T.fd_Bank_node ["self", "number"] (spNode P w T.C_Bank T.C_BadNode) := by
  have G_Bank_has := ok_has (P := P) (w := w) (base := base) T
  have G_BadNode_init := ok_badnode (P := P) (w := w) (base := base) T
  refine X2.okN T.F_Bank_node sc_Bank_node (fun vs H Q E h => ?_) (fun cdv A outer s H vs Q E hr h => ?_)
  · obtain ⟨o, t, us, rs, n, rfl, _⟩ := h
    rfl
  · obtain ⟨o, t, us, rs, n, rfl, bk, hn60, h1, h2⟩ := h
    have hln := bk.ln
    have hbl := bk.len
    refine ⟨_, (pss_cons (ps_if (pt_not (pt_val (pe_meth (pv 0) T.cl_Bank T.M_Bank_has G_Bank_has (hr.mono (by first | decide | omega)) T.b_Bank_has .nil pass0 (pa_cons (pv 1) pa_nil)))) (pss_one (L2N.ps_raise rfl (L2N.takes_of rfl rfl rfl rfl) (X2.pmkN T.xo_BadNode.ox T.xo_BadNode.ii T.xo_BadNode.ti G_BadNode_init (hr.mono (by first | decide | omega)) T.b_BadNode_init pass0 (by rfl) T.c_BadNode (pa_cons (pv 1) pa_nil)))) pss_nil)
 (pss_one (ps_ret (pe_ix ix_list (pe_fld (pv 0) rfl) (pe_op op_sub (pv 1) pe_int) (fun _ _ => rfl))))), ?_⟩
    refine Z.w_start (σ' := [some (.ref o), some (.int n)]) rfl ?_
    walk_at "w"
    refine w_meth0 bk.obj rfl (by rfl) ?_
    walk_at "w"
    refine ⟨o, t, us, rs, _, rfl, bk, ?_⟩
    by_cases hin : (1 : Int) ≤ n ∧ n ≤ rs.length
    · obtain ⟨i, rfl⟩ : ∃ i : Nat, n = (i : Int) + 1 := ⟨(n - 1).toNat, by omega⟩
      have hi : us[i]? = some us[i] := List.getElem?_eq_getElem (by omega)
      have hat : atI (us.map V.ref) ((i : Int) + 1 - 1) = some (.ref us[i]) := by
        rw [show (i : Int) + 1 - 1 = (i : Int) by omega]
        exact atI_nat (by rw [List.getElem?_map, hi]; rfl)
      have q := h1 i _ rfl hi
      rw [decide_eq_true hin]
      refine ⟨true, rfl, ?_⟩
      rw [if_neg (by decide)]
      walk_at "w"
      refine w_fldT T.cl_Bank T.n_Bank__nodes bk.obj rfl ?_
      walk_at "w"
      exact q
    · rw [decide_eq_false hin]
      refine ⟨false, rfl, ?_⟩
      rw [if_pos (by decide)]
      walk_at "w"
      refine X2.w_mkO ?_
      walk_at "w"
      exact X2.use_mk (use_badnode hn60) fun d hd => h2 hin _ _ (same_of (Same.refl _) hd) upd_same
end
end L

namespace L
open PySem PySem.Spec PyProof.Rows L2 Z M
open _root_.SX (S S_len S_inj)
/-! make -/
def nkey (op : List Nat) (kv : NestedKey) (ns : List Int) : NestedKey := .tup [.text (S op), kv, .tup (ns.map .num)]
def putB (rs : List BRow) (k : NestedKey) (s : Str) : List BRow := if k ∈ rs.map (·.1) then rs else rs ++ [(k, s)]
theorem numOf_none {rs : List BRow} {k : NestedKey} (h : k ∉ rs.map (·.1)) : numOf rs k = none := by
  unfold numOf
  rw [List.idxOf?_eq_none_iff.mpr h]
  rfl
theorem numOf_some {rs : List BRow} {k : NestedKey} (h : k ∈ rs.map (·.1)) : ∃ i : Nat, (rs.map (·.1)).idxOf? k = some i ∧ numOf rs k = some (.int ((i : Int) + 1)) ∧ ∃ r, rs[i]? = some r ∧ r.1 = k := by
  cases e : (rs.map (·.1)).idxOf? k with
  | none => exact absurd h (List.idxOf?_eq_none_iff.mp e)
  | some i =>
    refine ⟨i, rfl, by unfold numOf; rw [e]; rfl, ?_⟩
    obtain ⟨h1, h2, _⟩ := List.idxOf?_eq_some_iff.mp e
    rw [List.length_map] at h1
    refine ⟨rs[i], List.getElem?_eq_getElem h1, ?_⟩
    rw [List.getElem_map] at h2
    exact h2
theorem numOf_snoc {rs : List BRow} {k j : NestedKey} {s : Str} (h : k ∉ rs.map (·.1)) : numOf (rs ++ [(k, s)]) j = if j = k then some (.int ((rs.length : Int) + 1)) else numOf rs j := by
  unfold numOf
  rw [List.map_append, List.map_singleton]
  have hs : ∀ (l : List NestedKey), k ∉ l → (l ++ [k]).idxOf? j = if j = k then some l.length else l.idxOf? j := by
    intro l hl
    by_cases e : j = k
    · subst e
      rw [if_pos rfl, List.idxOf?_eq_some_iff]
      refine ⟨by simp, by simp, fun m hm z => ?_⟩
      rw [List.getElem_append_left hm] at z
      exact hl (z ▸ List.getElem_mem _)
    · rw [if_neg e]
      cases q : l.idxOf? j with
      | none =>
        rw [List.idxOf?_eq_none_iff] at q ⊢
        rw [List.mem_append, List.mem_singleton]
        exact fun z => z.elim q e
      | some m =>
        rw [List.idxOf?_eq_some_iff] at q ⊢
        obtain ⟨h1, h2, h3⟩ := q
        refine ⟨by simp; omega, by rw [List.getElem_append_left h1]; exact h2, fun n hn => ?_⟩
        rw [List.getElem_append_left (by omega)]
        exact h3 n hn
  rw [hs _ h]
  by_cases e : j = k
  · rw [if_pos e, if_pos e, List.length_map]
    rfl
  · rw [if_neg e, if_neg e]
def MkOk (fs : List FnRow) (rs : List BRow) (op : List Nat) (val : V) (ns : List Int) (s : List Nat) : Prop :=
  (op = CALL ∧ ∃ (f : List Nat) (as : List (List Nat)), val = .str (S f) ∧ fs.lookup (S f) = some (as.map S, S s) ∧ (∀ l ∈ as, PyData.canLay0 (.str (S l)) = true) ∧ ns.length = as.length ∧
    ∀ (j : Nat) (n : Int) (a : List Nat), ns[j]? = some n → as[j]? = some a → ∃ (i : Nat) (r : BRow), n = (i : Int) + 1 ∧ rs[i]? = some r ∧ r.2 = S a) ∨
  ((op, s) ∈ d_LEAF_SORTS ∧ ns = [])
theorem nd_ne {P : Program} {w : World} {H : Hp} {a b : Addr} {kvs : List (NestedKey × V)} {xs : List V} (n : ND.ND P w H a kvs) (e : H b = some (.lst xs)) : b ≠ a := fun z => by
  subst z
  rcases n with ⟨ts, _, e2, _⟩ | ⟨_, e2⟩
  · rw [e] at e2
    have z' : HO.lst xs = HO.ext _ := Option.some.inj e2
    exact nomatch z'
  · rw [e] at e2
    exact nomatch e2
theorem nd_nei {P : Program} {w : World} {H : Hp} {a b C dx : Addr} {kvs : List (NestedKey × V)} {fs : List (Str × V)} (n : ND.ND P w H a kvs) (e : H b = some (.ins C dx fs)) : b ≠ a := fun z => by
  subst z
  rcases n with ⟨ts, _, e2, _⟩ | ⟨_, e2⟩
  · rw [e] at e2
    have z' : HO.ins C dx fs = HO.ext _ := Option.some.inj e2
    exact nomatch z'
  · rw [e] at e2
    exact nomatch e2
theorem nks_nums {H : Hp} : ∀ ns : List Int, ND.nks H (ns.map NestedKey.num) (ns.map V.int)
  | [] => by unfold ND.nks; rfl
  | n :: ns => by
    rw [List.map_cons, List.map_cons]
    unfold ND.nks
    exact ⟨_, _, rfl, by unfold ND.nk; rfl, nks_nums ns⟩
theorem nk_node {H : Hp} {a pa : Addr} {op : List Nat} {kv : NestedKey} {val : V} {ns : List Int} (e : H a = some (.tup [.str (S op), val, .ref pa])) (hv : ND.nk H kv val) (hp : H pa = some (.tup (ns.map V.int))) : ND.nk H (nkey op kv ns) (.ref a) := by
  unfold nkey ND.nk
  refine ⟨a, _, rfl, e, ?_⟩
  unfold ND.nks
  refine ⟨_, _, rfl, by unfold ND.nk; rfl, ?_⟩
  unfold ND.nks
  refine ⟨_, _, rfl, hv, ?_⟩
  unfold ND.nks
  refine ⟨_, _, rfl, ?_, by unfold ND.nks; rfl⟩
  unfold ND.nk
  exact ⟨pa, _, rfl, hp, nks_nums ns⟩
theorem dep_nums : ∀ ns : List Int, NestedKey.depthAll (ns.map NestedKey.num) ≤ 1
  | [] => by simp [NestedKey.depthAll]
  | n :: ns => by
    have := dep_nums ns
    simp only [List.map_cons, NestedKey.depthAll, NestedKey.depth]
    omega
theorem dep_node {op : List Nat} {kv : NestedKey} {ns : List Int} (h : kv.depth ≤ 6) : (nkey op kv ns).depth ≤ 8 := by
  have := dep_nums ns
  unfold nkey
  simp only [NestedKey.depthAll, NestedKey.depth]
  omega
section
variable {P : Program} {w : World} {σ : L2.St} {H : Hp} {Q : VK}
theorem w_ndinF {ty td : TE} (h : ty σ H fun y H1 => td σ H1 fun x H2 => ∃ a b kvs k c, x = .ref a ∧ y = .ref b ∧ ND.ND P w H2 a kvs ∧ ND.nk H2 k (.ref b) ∧ k.depth ≤ 8 ∧ (valV kvs k).isSome = c ∧ Q (.bl c) H2) : ND.tNIn P w false ty td σ H Q := by
  have e : (fun (y : V) (H1 : Hp) => td σ H1 fun x H2 => ∃ a b kvs k c, x = .ref a ∧ y = .ref b ∧ ND.ND P w H2 a kvs ∧ ND.nk H2 k (.ref b) ∧ k.depth ≤ 8 ∧ (valV kvs k).isSome = c ∧ Q (.bl c) H2) = fun y H1 => td σ H1 fun x H2 => ∃ a b kvs k, x = .ref a ∧ y = .ref b ∧ ND.ND P w H2 a kvs ∧ ND.nk H2 k (.ref b) ∧ k.depth ≤ 8 ∧ Q (.bl (valV kvs k).isSome) H2 := by
    funext y H1
    congr 1
    funext x H2
    exact propext ⟨fun ⟨a, b, kvs, k, c, e1, e2, e3, e4, e5, e6, q⟩ => ⟨a, b, kvs, k, e1, e2, e3, e4, e5, by rw [e6]; exact q⟩, fun ⟨a, b, kvs, k, e1, e2, e3, e4, e5, q⟩ => ⟨a, b, kvs, k, _, e1, e2, e3, e4, e5, rfl, q⟩⟩
  rw [e] at h
  exact h
theorem w_ndinT {ty td : TE} (h : ty σ H fun y H1 => td σ H1 fun x H2 => ∃ a b kvs k c, x = .ref a ∧ y = .ref b ∧ ND.ND P w H2 a kvs ∧ ND.nk H2 k (.ref b) ∧ k.depth ≤ 8 ∧ (valV kvs k).isSome = c ∧ Q (.bl (!c)) H2) : ND.tNIn P w true ty td σ H Q := by
  have e : (fun (y : V) (H1 : Hp) => td σ H1 fun x H2 => ∃ a b kvs k c, x = .ref a ∧ y = .ref b ∧ ND.ND P w H2 a kvs ∧ ND.nk H2 k (.ref b) ∧ k.depth ≤ 8 ∧ (valV kvs k).isSome = c ∧ Q (.bl (!c)) H2) = fun y H1 => td σ H1 fun x H2 => ∃ a b kvs k, x = .ref a ∧ y = .ref b ∧ ND.ND P w H2 a kvs ∧ ND.nk H2 k (.ref b) ∧ k.depth ≤ 8 ∧ Q (.bl (!(valV kvs k).isSome)) H2 := by
    funext y H1
    congr 1
    funext x H2
    exact propext ⟨fun ⟨a, b, kvs, k, c, e1, e2, e3, e4, e5, e6, q⟩ => ⟨a, b, kvs, k, e1, e2, e3, e4, e5, by rw [e6]; exact q⟩, fun ⟨a, b, kvs, k, e1, e2, e3, e4, e5, q⟩ => ⟨a, b, kvs, k, _, e1, e2, e3, e4, e5, rfl, q⟩⟩
  rw [e] at h
  exact h
theorem w_ndget {td ty : TE} (h : td σ H fun x H1 => ty σ H1 fun y H2 => ∃ a b kvs k v, x = .ref a ∧ y = .ref b ∧ ND.ND P w H2 a kvs ∧ ND.nk H2 k (.ref b) ∧ k.depth ≤ 8 ∧ valV kvs k = some v ∧ Q v H2) : ND.tNGet P w td ty σ H Q := h
theorem w_ndput {td ty tv : TE} {D : Ends} (h : tv σ H fun v H1 => td σ H1 fun x H2 => ty σ H2 fun y H3 => ∃ a b kvs k, x = .ref a ∧ y = .ref b ∧ ND.ND P w H3 a kvs ∧ ND.nk H3 k (.ref b) ∧ k.depth ≤ 8 ∧ kvs.length < sizeLine ∧ ∀ o, ND.ND P w (upd H3 a o) a (putK kvs k v) → D.nx σ (upd H3 a o)) : ND.sNPut P w td ty tv D σ H := h
end
end L

local macro_rules | `(tactic| walk_at "w1") => `(tactic| first
  | with_reducible refine L.w_ndinF ?_
  | with_reducible refine L.w_ndinT ?_
  | with_reducible refine L.w_ndget ?_
  | with_reducible refine L.w_ndput ?_
  | fail "w1")

namespace L
open PySem PySem.Spec PyProof.Rows L2 Z M
open _root_.SX (S S_len S_inj)
theorem BkAt.ch {P : Program} {w : World} {CB : Addr} {S : List Addr} {H H' : Hp} {o : Addr} {t : BkO} {us : List Addr} {rs : List BRow} (h : BkAt P w CB H o t us rs) (c : Ch S H H') (m : NoTup S H) (n : ∀ b ∈ S, b ≠ o ∧ b ≠ t.ln ∧ b ≠ t.ls ∧ b ≠ t.dn) : BkAt P w CB H' o t us rs := by
  obtain ⟨kvs, n1, n2, n3⟩ := h.nums
  have tp : ∀ b ys, H b = some (.tup ys) → H' b = some (.tup ys) := fun b ys e => c.tup m e
  exact ⟨c _ _ (fun z => (n _ z).1 rfl) h.obj, h.ne, c _ _ (fun z => (n _ z).2.1 rfl) h.ln, c _ _ (fun z => (n _ z).2.2.1 rfl) h.ls, h.len, fun i g a e1 e2 => ⟨ND.nk_keep tp _ _ (h.nk i g a e1 e2).1, (h.nk i g a e1 e2).2⟩, kvs, n1.keep (fun o e => c _ _ (fun z => (n _ z).2.2.2 rfl) e) tp, n2, n3⟩
theorem BkAt.nt {P : Program} {w : World} {CB : Addr} {H : Hp} {o : Addr} {t : BkO} {us : List Addr} {rs : List BRow} (h : BkAt P w CB H o t us rs) : NoTup [t.ln, t.ls, t.dn] H := fun b hb ys e => by
  obtain ⟨kvs, n1, _⟩ := h.nums
  rcases List.mem_cons.mp hb with z | hb
  · rw [z, h.ln] at e; cases e
  rcases List.mem_cons.mp hb with z | hb
  · rw [z, h.ls] at e; cases e
  · rw [List.mem_singleton.mp hb] at e; exact n1.not_tup e rfl
/-- the table of a code object is no other thing -/
theorem tbl_ne {H : Hp} {Pt b : Addr} {o : HO} (h : GxR.TabG H Pt) (e : H b = some o) (n : ∀ ps, o ≠ .tbl ps) : b ≠ Pt := fun z => by
  obtain ⟨ps, hp, _⟩ := h
  rw [z, hp] at e
  exact n ps (Option.some.inj e).symm
theorem TabG.keep {H H' : Hp} {Pt : Addr} (h : GxR.TabG H Pt) (e : ∀ o, H Pt = some o → H' Pt = some o) : GxR.TabG H' Pt := by
  obtain ⟨ps, hp, h2⟩ := h
  exact ⟨ps, e _ hp, h2⟩
theorem nd_tbl {P : Program} {w : World} {H : Hp} {a Pt : Addr} {kvs : List (NestedKey × V)} (h : GxR.TabG H Pt) (n : ND.ND P w H a kvs) : a ≠ Pt := by
  rcases n with ⟨ts, _, e2, _⟩ | ⟨_, e2⟩
  · exact tbl_ne h e2 fun _ z => nomatch z
  · exact tbl_ne h e2 fun _ z => nomatch z
theorem nt_tbl {H : Hp} {Pt : Addr} (h : GxR.TabG H Pt) : NoTup [Pt] H := fun b hb ys e => by
  rw [List.mem_singleton.mp hb] at e
  exact tbl_ne h e (fun _ z => nomatch z) rfl
theorem BkAt.tbl {P : Program} {w : World} {CB : Addr} {H : Hp} {o : Addr} {t : BkO} {us : List Addr} {rs : List BRow} {Pt : Addr} (bk : BkAt P w CB H o t us rs) (h : GxR.TabG H Pt) : o ≠ Pt ∧ t.ln ≠ Pt ∧ t.ls ≠ Pt ∧ t.dn ≠ Pt := by
  obtain ⟨kvs, n1, _⟩ := bk.nums
  exact ⟨tbl_ne h bk.obj (fun _ z => nomatch z), tbl_ne h bk.ln (fun _ z => nomatch z), tbl_ne h bk.ls (fun _ z => nomatch z), nd_tbl h n1⟩
theorem SigAt.tbl {C : Addr} {H : Hp} {o : Addr} {t : SgO} {ss : List Str} {fs : List FnRow} {Pt : Addr} (sg : SigAt C H o t ss fs) (h : GxR.TabG H Pt) : o ≠ Pt ∧ t.ds ≠ Pt ∧ t.df ≠ Pt := by
  obtain ⟨ks, hs, _⟩ := sg.so
  obtain ⟨kf, hf, _⟩ := sg.fu
  exact ⟨tbl_ne h sg.obj (fun _ z => nomatch z), tbl_ne h hs (fun _ z => nomatch z), tbl_ne h hf (fun _ z => nomatch z)⟩
/-- the sorts of parts -/
def SortsOf (rs : List BRow) (ns : List Int) (ls : List (List Nat)) : Prop := ls.length = ns.length ∧ ∀ (j : Nat) (n : Int) (a : List Nat), ns[j]? = some n → ls[j]? = some a → ∃ (i : Nat) (r : BRow), n = (i : Int) + 1 ∧ rs[i]? = some r ∧ r.2 = S a
theorem mkSort_op {fs : List FnRow} {op : List Nat} {val : V} {ls : List (List Nat)} {r : List Nat} (h : mkSort fs op val ls (some r)) : op ∈ w_OPS ∧ (op = CALL → ∃ (f : List Nat) (q : List Str × Str), val = .str (S f) ∧ fs.lookup (S f) = some q) := by
  rcases h with ⟨rfl, f, as, r', rfl, hl, _⟩ | ⟨rfl, _⟩ | ⟨r', hm, _⟩ | ⟨r', hm, _⟩ | ⟨hm, _⟩ | ⟨hm, _⟩
  · exact ⟨(by decide), fun _ => ⟨f, _, rfl, hl⟩⟩
  · exact ⟨(by decide), fun z => absurd z (by decide)⟩
  · have : ∀ q ∈ d_LEAF_SORTS, q.1 ∈ w_OPS ∧ q.1 ≠ CALL := by decide
    exact ⟨(this _ hm).1, fun z => absurd z (this _ hm).2⟩
  · have : ∀ q ∈ d_SUMS, q.1 ∈ w_OPS ∧ q.1 ≠ CALL := by decide
    exact ⟨(this _ hm).1, fun z => absurd z (this _ hm).2⟩
  · have : ∀ q ∈ w_CONNECTIVES, q ∈ w_OPS ∧ q ≠ CALL := by decide
    exact ⟨(this _ hm).1, fun z => absurd z (this _ hm).2⟩
  · have : ∀ q ∈ [EQU, DIST, [109, 111, 115, 116], [108, 101, 115, 115]], q ∈ w_OPS ∧ q ≠ CALL := by decide
    exact ⟨(this _ hm).1, fun z => absurd z (this _ hm).2⟩
theorem Kept.len {op : List Nat} {ns ms : List Int} (h : Kept op ns ms) : ms.length = ns.length := by
  unfold Kept at h
  split at h
  · exact h.1.length_eq
  · rw [h]
section
variable {P : Program} {w : World} {K : PySem.W.Frag} {mg : Str → Option Value} {base : Heap}
def spMk (P : Program) (w : World) (CB CS Pt : Addr) : Sp := fun vs H Q _ => ∃ (o : Addr) (t : BkO) (us : List Addr) (rs : List BRow) (tg : SgO) (ss : List Str) (fs : List FnRow) (op : List Nat) (val : V) (kv : NestedKey) (ns : List Int) (pa : Addr) (ls : List (List Nat)) (s : List Nat),
  vs = [.ref o, .str (S op), val, .ref pa] ∧ BkAt P w CB H o t us rs ∧ SigAt CS H t.sg tg ss fs ∧ (H pa = some (.lst (ns.map V.int)) ∨ H pa = some (.tup (ns.map V.int))) ∧ ns.length ≤ 50 ∧ rs.length ≤ 500 ∧ ND.nk H kv val ∧ kv.depth ≤ 6 ∧ SortsOf rs ns ls ∧ mkSort fs op val ls (some s) ∧ GxR.TabG H Pt ∧
  ∀ H' us' ms (i : Nat), Ch [t.ln, t.ls, t.dn, Pt] H H' → GxR.TabG H' Pt → Kept op ns ms → BkAt P w CB H' o t us' (putB rs (nkey op kv ms) (S s)) → numOf (putB rs (nkey op kv ms) (S s)) (nkey op kv ms) = some (.int ((i : Int) + 1)) → Q (.int ((i : Int) + 1)) H'
theorem ok_make (T : Txt K mg) (W : Tw K mg T w) (TB : GxR.TabB base mg T.c_ao T.P_ao) : FnOk P w K mg base CX0 5 T.f_Bank_make T.fd_Bank_make ["self", "op", "value", "parts"] (spMk P w T.C_Bank T.C_Signature T.P_ao) := by
  have G_Signature_knows_function := ok_knowsF (P := P) (w := w) (base := base) T
  have G_Bank_sort_of := ok_sortOf (P := P) (w := w) (base := base) T
  have G_sort_made := ok_sortMade (P := P) (base := base) T W TB
  have G_parts_kept := ok_parts (P := P) (w := w) (base := base) T
  refine T.F_Bank_make.ok sc_Bank_make (fun vs H Q E h => ?_) (fun cdv A outer s H vs Q E hr h => ?_)
  · obtain ⟨o, t, us, rs, tg, ss, fs, op, val, kv, ns, pa, ls, s, rfl, _⟩ := h
    rfl
  · obtain ⟨o, t, us, rs, tg, ss, fs, op, val, kv, ns, pa, sl, so, rfl, bk, sg, ep, hnl, hrl, hkv, hkd, ⟨hsl, hso⟩, hmk, htb, h⟩ := h
    obtain ⟨hop, hcall⟩ := mkSort_op hmk
    refine ⟨_, (pss_cons (ps_if (pt_cmpR op_notIn_seq (pv 1) (pe_glob (v := .ref T.A_OPS) (by rfl) T.g_OPS rfl) rfl) (pss_one ps_never) pss_nil)
 (pss_cons (ps_if (PW.pt (pw_and (pt_cmpR op_eq (pv 1) (MT.pe_strS (l := [99, 97, 108, 108]) (by decide +kernel)) (nomark _)) (pw_and1 (pt_not (pt_val (pe_meth (pe_fld (pv 0) rfl) T.cl_Signature T.M_Signature_knows_function G_Signature_knows_function (hr.mono (by first | decide | omega)) T.b_Signature_knows_function .nil pass0 (pa_cons (pv 2) pa_nil))))))) (pss_one ps_never) pss_nil)
 (pss_cons (ps_setLc (i := 4) (own := [("part", 5)]) (g := gName 5) (tt := tYes) (by rfl) sc_Bank_make.nd rfl rfl (sw_true rfl rfl rfl (by decide +kernel)) (PIO.pi_or (pi_list (pv 3)) (pi_tup (pv 3))) (blkOk_by (own := [("part", 5)]) (N := N_Bank_make) (sc := defScope s_Bank_make) (by decide +kernel)) (fun _ _ _ _ _ => pg_name (i := 5) sc_Bank_make.nd rfl (Or.inl rfl)) (fun _ _ _ _ _ => pts_nil) (fun _ _ _ _ _ => (pe_meth (pv 0) T.cl_Bank T.M_Bank_sort_of G_Bank_sort_of (hr.mono (by first | decide | omega)) T.b_Bank_sort_of .nil X2.passN (pa_cons (pv 5) pa_nil))))
 (pss_cons (ps_set (i := 6) sc_Bank_make.nd rfl (.inl rfl) (pe_call G_sort_made (hr.mono (by first | decide | omega)) (by rfl) T.g_sort_made T.F_sort_made.kp T.b_sort_made .nil pass0 (pa_cons (pe_fld (pv 0) rfl) (pa_cons (pv 1) (pa_cons (pv 2) (pa_cons (pv 4) pa_nil))))))
 (pss_cons (ps_if (pt_cmpR op_isN (pv 6) pe_non (nomark _)) (pss_one ps_never) pss_nil)
 (pss_cons (ps_set (i := 7) sc_Bank_make.nd rfl (.inl rfl) (pe_tup (pa_cons (pv 1) (pa_cons (pv 2) (pa_cons (pe_call G_parts_kept (hr.mono (by first | decide | omega)) (by rfl) T.g_parts_kept T.F_parts_kept.kp T.b_parts_kept .nil pass0 (pa_cons (pv 1) (pa_cons (pv 3) pa_nil))) pa_nil)))))
 (pss_cons (ps_if (pt_cmp (ND.pc_ndnotin (ND.hu9_of hr) (pv 7) (pe_fld (pv 0) rfl))) (pss_cons (ps_expr (pe_bm PySem.F.plainAttrs_list PySem.F.slot_list_append PySem.F.type_list_append mt_append (pe_fld (pv 0) rfl) (pa_cons (pv 7) pa_nil)))
 (pss_cons (ps_expr (pe_bm PySem.F.plainAttrs_list PySem.F.slot_list_append PySem.F.type_list_append mt_append (pe_fld (pv 0) rfl) (pa_cons (pv 6) pa_nil)))
 (pss_one (ND.ps_ndput (ND.hu9_of hr) (pe_fld (pv 0) rfl) (pv 7) (pe_callB call_len_seq (by rfl) T.m_len (by decide +kernel) (pa_cons (pe_fld (pv 0) rfl) pa_nil)) rfl)))) pss_nil)
 (pss_one (ps_ret (ND.pe_ndget (ND.hu9_of hr) (pe_fld (pv 0) rfl) (pv 7) (fun _ _ => rfl))))))))))), ?_⟩
    refine Z.w_start (σ' := [some (.ref o), some (.str (S op)), some val, some (.ref pa), none, none, none, none]) rfl ?_
    refine seqIf (fun σ' H' => σ' = [some (.ref o), some (.str (S op)), some val, some (.ref pa), none, none, none, none] ∧ H = H') (fun R kk => ?_) ?_
    · walk_at "w"
      refine w_ninS (T.z_OPS _) ?_
      rw [decide_eq_true hop]
      walk_at "w"
      exact kk _ _ ⟨rfl, rfl⟩
    rintro _ _ ⟨rfl, rfl⟩
    refine seqIf (fun σ' H' => σ' = [some (.ref o), some (.str (S op)), some val, some (.ref pa), none, none, none, none] ∧ H = H') (fun R kk => ?_) ?_
    · walk_at "w"
      by_cases hc : op = [99, 97, 108, 108]
      · obtain ⟨f, q, rfl, hl⟩ := hcall hc
        subst hc
        rw [if_pos (decide_eq_true rfl)]
        walk_at "w"
        refine w_fldT T.cl_Bank T.n_Bank_signature bk.obj rfl ?_
        refine ⟨t.sg, tg.dx, _, rfl, sg.obj, rfl, ?_⟩
        walk_at "w"
        refine ⟨t.sg, tg, ss, fs, S f, rfl, sg, ?_⟩
        rw [hl]
        walk_at "w"
        exact kk _ _ ⟨rfl, rfl⟩
      · rw [if_neg (fun z => hc (of_decide_eq_true z))]
        walk_at "w"
        exact kk _ _ ⟨rfl, rfl⟩
    rintro _ _ ⟨rfl, rfl⟩
    walk_at "w"
    rcases ep with ep | ep
    · refine Or.inl ?_
      walk_at "w"
      intro D hD
      refine lc_list (xs := ns.map V.int) (fun i H' => Same H H' ∧ H' D = some (.lst ((sl.take i).map fun l => V.str (S l)))) ⟨same_of (Same.refl _) hD, upd_same⟩ (fun i H' _ q => .inl (.inl (q.1 _ _ ep))) ?_ ?_
      · rintro i x H' hx ⟨sm, eD⟩
        rw [List.getElem?_map] at hx
        obtain ⟨n, hn, rfl⟩ := Option.map_eq_some_iff.mp hx
        have hi := (List.getElem?_eq_some_iff.mp hn).1
        have ha : sl[i]? = some sl[i] := List.getElem?_eq_getElem (by omega)
        obtain ⟨j, r, rfl, hr1, hr2⟩ := hso i n _ hn ha
        have hjr := (List.getElem?_eq_some_iff.mp hr1).1
        refine Z.w_gname (σ' := [some (.ref o), some (.str (S op)), some val, some (.ref pa), none, some (.int ((j : Int) + 1)), none, none]) rfl ⟨rfl, ?_⟩
        walk_at "w"
        refine w_meth0 (sm _ _ bk.obj) rfl (by rfl) ?_
        walk_at "w"
        refine ⟨o, t, us, rs, _, rfl, bk.same sm, by omega, fun j' r' ej hj' => ?_, fun z => absurd (show (1 : Int) ≤ (j : Int) + 1 ∧ (j : Int) + 1 ≤ rs.length by omega) z⟩
        obtain rfl : j' = j := by omega
        rw [hr1] at hj'
        obtain rfl := Option.some.inj hj'
        refine ⟨_, eD, ?_, same_mut sm hD, ?_⟩
        · rw [List.length_map, List.length_take]
          exact Nat.lt_of_le_of_lt (Nat.le_trans (Nat.min_le_right _ _) (by rw [hsl]; exact hnl)) (by decide)
        · rw [upd_same, hr2, List.take_add_one, ha, List.map_append]
          rfl
      · rintro H1 ⟨sm, eD⟩
        rw [List.length_map, ← hsl, List.take_length] at eD
        walk_at "w"
        refine w_fldT T.cl_Bank T.n_Bank_signature (sm _ _ bk.obj) rfl ?_
        walk_at "w"
        have htb1 := TabG.keep htb fun o e => sm _ _ e
        refine ⟨t.sg, tg, ss, fs, op, val, sl, D, so, rfl, sg.same sm, eD, by omega, htb1, hmk, fun H2 k2 htb2 => ?_⟩
        have cA : Ch [T.P_ao] H H2 := (Ch.of sm).trans fun b x n e => k2 b (fun z => n (by rw [z]; exact List.mem_singleton.mpr rfl)) x e
        have bt := bk.tbl htb
        have bk2 := bk.ch cA (nt_tbl htb) fun b hb => by rw [List.mem_singleton.mp hb]; exact ⟨bt.1.symm, bt.2.1.symm, bt.2.2.1.symm, bt.2.2.2.symm⟩
        have ep2 := cA _ _ (fun z => tbl_ne htb ep (fun _ z => nomatch z) (List.mem_singleton.mp z)) ep
        have tup2 : ∀ b ys, H b = some (.tup ys) → H2 b = some (.tup ys) := fun b ys e => cA.tup (nt_tbl htb) e
        walk_at "w"
        refine ⟨op, pa, ns, rfl, .inl ep2, hnl, fun pk H3 ms sm3 epk hkp => ?_⟩
        have cB : Ch [T.P_ao] H H3 := cA.trans (Ch.of sm3)
        walk_at "w"
        rename_i nd hnd
        have cC : Ch [T.P_ao] H (upd H3 nd (.tup [.str (S op), val, .ref pk])) := cB.new hnd
        have sm23 : Same H2 (upd H3 nd (.tup [.str (S op), val, .ref pk])) := same_of sm3 hnd
        have end_ : upd H3 nd (.tup [.str (S op), val, .ref pk]) nd = some (.tup [.str (S op), val, .ref pk]) := upd_same
        have epk4 : upd H3 nd (.tup [.str (S op), val, .ref pk]) pk = some (.tup (ms.map V.int)) := upd_of hnd epk
        generalize upd H3 nd (.tup [.str (S op), val, .ref pk]) = H4 at cC sm23 end_ epk4 ⊢
        have bk4 := bk2.same sm23
        have htb4 := TabG.keep htb2 fun o e => sm23 _ _ e
        have bt4 := bk4.tbl htb4
        have hk : ND.nk H4 (nkey op kv ms) (.ref nd) := nk_node end_ (ND.nk_keep (fun b ys e => sm23 _ _ (tup2 b ys e)) _ _ hkv) epk4
        have hd := dep_node (op := op) (ns := ms) hkd
        obtain ⟨kvs, hn1, hn2, hn3⟩ := bk4.nums
        walk_at "w"
        refine w_fldT T.cl_Bank T.n_Bank__numbers bk4.obj rfl ?_
        by_cases hin : nkey op kv ms ∈ rs.map (·.1)
        · obtain ⟨i, e1, e2, r, e3, e4⟩ := numOf_some hin
          have epb : putB rs (nkey op kv ms) (S so) = rs := if_pos hin
          refine ⟨t.dn, nd, kvs, _, true, rfl, rfl, hn1, hk, hd, by rw [hn3, e2]; rfl, ?_⟩
          walk_at "w"
          refine w_fldT T.cl_Bank T.n_Bank__numbers bk4.obj rfl ?_
          walk_at "w"
          refine ⟨t.dn, nd, kvs, _, _, rfl, rfl, hn1, hk, hd, (hn3 _).trans e2, ?_⟩
          exact h _ us ms i (cC.sup (by simp)) htb4 hkp (by rw [epb]; exact bk4) (by rw [epb]; exact e2)
        · refine ⟨t.dn, nd, kvs, _, false, rfl, rfl, hn1, hk, hd, by rw [hn3, numOf_none hin]; rfl, ?_⟩
          walk_at "w"
          refine w_fldT T.cl_Bank T.n_Bank__nodes bk4.obj rfl ?_
          walk_at "w"
          have hul : us.length ≤ 500 := by rw [bk.len]; exact hrl
          refine Z.w_tyL bk4.ln ?_
          walk_at "w"
          refine Z.w_app bk4.ln (by rw [List.length_map]; omega) ?_
          walk_at "w"
          have n1 : o ≠ t.ln := ne_ins bk4.obj bk4.ln fun _ _ _ e => nomatch e
          have n2 : o ≠ t.ls := ne_ins bk4.obj bk4.ls fun _ _ _ e => nomatch e
          have n3 : t.ln ≠ t.dn := nd_ne hn1 bk4.ln
          have n4 : t.ls ≠ t.dn := nd_ne hn1 bk4.ls
          have n5 : o ≠ t.dn := nd_nei hn1 bk4.obj
          refine w_fldT T.cl_Bank T.n_Bank__sorts (o := o) (by rw [upd_ne n1]; exact bk4.obj) rfl ?_
          have els5 : upd H4 t.ln (.lst (us.map V.ref ++ [.ref nd])) t.ls = some (.lst (rs.map fun r => V.str r.2)) := by rw [upd_ne bk.ne.symm]; exact bk4.ls
          walk_at "w"
          refine Z.w_tyL els5 ?_
          walk_at "w"
          refine Z.w_app els5 (by rw [List.length_map]; omega) ?_
          have H7o : upd (upd H4 t.ln (.lst (us.map V.ref ++ [.ref nd]))) t.ls (.lst ((rs.map fun r => V.str r.2) ++ [.str (S so)])) o = some (.ins T.C_Bank t.dx t.fs) := by rw [upd_ne n2, upd_ne n1]; exact bk4.obj
          have H7n : upd (upd H4 t.ln (.lst (us.map V.ref ++ [.ref nd]))) t.ls (.lst ((rs.map fun r => V.str r.2) ++ [.str (S so)])) t.ln = some (.lst (us.map V.ref ++ [.ref nd])) := by rw [upd_ne bk.ne, upd_same]
          have H7s : upd (upd H4 t.ln (.lst (us.map V.ref ++ [.ref nd]))) t.ls (.lst ((rs.map fun r => V.str r.2) ++ [.str (S so)])) t.ls = some (.lst ((rs.map fun r => V.str r.2) ++ [.str (S so)])) := upd_same
          have H7t : ∀ b ys, H4 b = some (.tup ys) → upd (upd H4 t.ln (.lst (us.map V.ref ++ [.ref nd]))) t.ls (.lst ((rs.map fun r => V.str r.2) ++ [.str (S so)])) b = some (.tup ys) := fun b ys e => by
            rw [upd_ne (fun z => by rw [z, bk4.ls] at e; cases e), upd_ne (fun z => by rw [z, bk4.ln] at e; cases e)]
            exact e
          have H7d : ∀ u, H4 t.dn = some u → upd (upd H4 t.ln (.lst (us.map V.ref ++ [.ref nd]))) t.ls (.lst ((rs.map fun r => V.str r.2) ++ [.str (S so)])) t.dn = some u := fun u e => by
            rw [upd_ne n4.symm, upd_ne n3.symm]
            exact e
          have H7c : Ch [t.ln, t.ls, t.dn, T.P_ao] H (upd (upd H4 t.ln (.lst (us.map V.ref ++ [.ref nd]))) t.ls (.lst ((rs.map fun r => V.str r.2) ++ [.str (S so)]))) := ((cC.sup (by simp)).put (by simp)).put (by simp)
          have H7p : GxR.TabG (upd (upd H4 t.ln (.lst (us.map V.ref ++ [.ref nd]))) t.ls (.lst ((rs.map fun r => V.str r.2) ++ [.str (S so)]))) T.P_ao := TabG.keep htb4 fun o e => by rw [upd_ne bt4.2.2.1.symm, upd_ne bt4.2.1.symm]; exact e
          generalize upd (upd H4 t.ln (.lst (us.map V.ref ++ [.ref nd]))) t.ls (.lst ((rs.map fun r => V.str r.2) ++ [.str (S so)])) = H7 at H7o H7n H7s H7t H7d H7c H7p ⊢
          have hn7 : ND.ND P w H7 t.dn kvs := hn1.keep H7d H7t
          have hk7 := ND.nk_keep H7t _ _ hk
          walk_at "w"
          refine w_fldT T.cl_Bank T.n_Bank__nodes H7o rfl ?_
          walk_at "w"
          refine w_fldT T.cl_Bank T.n_Bank__numbers H7o rfl ?_
          walk_at "w"
          have hkl : kvs.length < sizeLine := Nat.lt_of_le_of_lt (by rw [hn2]; exact hrl : kvs.length ≤ 500) (by decide)
          refine ⟨t.dn, nd, kvs, _, rfl, rfl, hn7, hk7, hd, hkl, fun o2 hn8 => ?_⟩
          have H8t : ∀ b ys, H7 b = some (.tup ys) → upd H7 t.dn o2 b = some (.tup ys) := fun b ys e => by
            rw [upd_ne (hn7.not_tup e)]
            exact e
          have hk8 := ND.nk_keep H8t _ _ hk7
          have H8o : upd H7 t.dn o2 o = some (.ins T.C_Bank t.dx t.fs) := by rw [upd_ne n5]; exact H7o
          have H8n : upd H7 t.dn o2 t.ln = some (.lst (us.map V.ref ++ [.ref nd])) := by rw [upd_ne n3]; exact H7n
          have H8s : upd H7 t.dn o2 t.ls = some (.lst ((rs.map fun r => V.str r.2) ++ [.str (S so)])) := by rw [upd_ne n4]; exact H7s
          have H8c : Ch [t.ln, t.ls, t.dn, T.P_ao] H (upd H7 t.dn o2) := H7c.put (by simp)
          have H8p : GxR.TabG (upd H7 t.dn o2) T.P_ao := TabG.keep H7p fun o e => by rw [upd_ne bt4.2.2.2.symm]; exact e
          generalize upd H7 t.dn o2 = H8 at hn8 H8t hk8 H8o H8n H8s H8c H8p ⊢
          have eln : (us.map V.ref ++ [V.ref nd]).length = rs.length + 1 := by rw [List.length_append, List.length_map, bk.len]; rfl
          rw [eln] at hn8
          walk_at "w"
          refine w_fldT T.cl_Bank T.n_Bank__numbers H8o rfl ?_
          walk_at "w"
          refine ⟨t.dn, nd, _, _, _, rfl, rfl, hn8, hk8, hd, by rw [valV_put, if_pos rfl], ?_⟩
          have epb : putB rs (nkey op kv ms) (S so) = rs ++ [(nkey op kv ms, S so)] := if_neg hin
          refine h H8 (us ++ [nd]) ms rs.length H8c H8p hkp ?_ ?_
          · rw [epb]
            refine ⟨H8o, bk.ne, by rw [List.map_append]; exact H8n, by rw [List.map_append]; exact H8s, by rw [List.length_append, List.length_append, bk.len]; rfl, fun i r a e1 e2 => ?_, _, hn8, ?_, fun k => ?_⟩
            · by_cases hi : i < rs.length
              · rw [List.getElem?_append_left hi] at e1
                rw [List.getElem?_append_left (by rw [bk.len]; exact hi)] at e2
                obtain ⟨g1, g2⟩ := bk4.nk i r a e1 e2
                exact ⟨ND.nk_keep H8t _ _ (ND.nk_keep H7t _ _ g1), g2⟩
              · have hl := (List.getElem?_eq_some_iff.mp e1).1
                rw [List.length_append, List.length_singleton] at hl
                obtain rfl : i = rs.length := by omega
                rw [List.getElem?_append_right (Nat.le_refl _), Nat.sub_self] at e1
                rw [← bk.len, List.getElem?_append_right (Nat.le_refl _), Nat.sub_self] at e2
                obtain rfl := Option.some.inj e1
                obtain rfl := Option.some.inj e2
                exact ⟨hk8, hd⟩
            · rw [putK_new _ ((hn3 _).trans (numOf_none hin)), List.length_append, hn2, List.length_append]
              rfl
            · rw [valV_put, numOf_snoc hin, hn3]
              rfl
          · rw [epb, numOf_snoc hin, if_pos rfl]
    · refine Or.inr ?_
      walk_at "w"
      intro D hD
      refine lc_tup (xs := ns.map V.int) (fun i H' => Same H H' ∧ H' D = some (.lst ((sl.take i).map fun l => V.str (S l)))) ⟨same_of (Same.refl _) hD, upd_same⟩ (fun i H' _ q => .inl (.inl (q.1 _ _ ep))) ?_ ?_
      · rintro i x H' hx ⟨sm, eD⟩
        rw [List.getElem?_map] at hx
        obtain ⟨n, hn, rfl⟩ := Option.map_eq_some_iff.mp hx
        have hi := (List.getElem?_eq_some_iff.mp hn).1
        have ha : sl[i]? = some sl[i] := List.getElem?_eq_getElem (by omega)
        obtain ⟨j, r, rfl, hr1, hr2⟩ := hso i n _ hn ha
        have hjr := (List.getElem?_eq_some_iff.mp hr1).1
        refine Z.w_gname (σ' := [some (.ref o), some (.str (S op)), some val, some (.ref pa), none, some (.int ((j : Int) + 1)), none, none]) rfl ⟨rfl, ?_⟩
        walk_at "w"
        refine w_meth0 (sm _ _ bk.obj) rfl (by rfl) ?_
        walk_at "w"
        refine ⟨o, t, us, rs, _, rfl, bk.same sm, by omega, fun j' r' ej hj' => ?_, fun z => absurd (show (1 : Int) ≤ (j : Int) + 1 ∧ (j : Int) + 1 ≤ rs.length by omega) z⟩
        obtain rfl : j' = j := by omega
        rw [hr1] at hj'
        obtain rfl := Option.some.inj hj'
        refine ⟨_, eD, ?_, same_mut sm hD, ?_⟩
        · rw [List.length_map, List.length_take]
          exact Nat.lt_of_le_of_lt (Nat.le_trans (Nat.min_le_right _ _) (by rw [hsl]; exact hnl)) (by decide)
        · rw [upd_same, hr2, List.take_add_one, ha, List.map_append]
          rfl
      · rintro H1 ⟨sm, eD⟩
        rw [List.length_map, ← hsl, List.take_length] at eD
        walk_at "w"
        refine w_fldT T.cl_Bank T.n_Bank_signature (sm _ _ bk.obj) rfl ?_
        walk_at "w"
        have htb1 := TabG.keep htb fun o e => sm _ _ e
        refine ⟨t.sg, tg, ss, fs, op, val, sl, D, so, rfl, sg.same sm, eD, by omega, htb1, hmk, fun H2 k2 htb2 => ?_⟩
        have cA : Ch [T.P_ao] H H2 := (Ch.of sm).trans fun b x n e => k2 b (fun z => n (by rw [z]; exact List.mem_singleton.mpr rfl)) x e
        have bt := bk.tbl htb
        have bk2 := bk.ch cA (nt_tbl htb) fun b hb => by rw [List.mem_singleton.mp hb]; exact ⟨bt.1.symm, bt.2.1.symm, bt.2.2.1.symm, bt.2.2.2.symm⟩
        have ep2 := cA _ _ (fun z => tbl_ne htb ep (fun _ z => nomatch z) (List.mem_singleton.mp z)) ep
        have tup2 : ∀ b ys, H b = some (.tup ys) → H2 b = some (.tup ys) := fun b ys e => cA.tup (nt_tbl htb) e
        walk_at "w"
        refine ⟨op, pa, ns, rfl, .inr ep2, hnl, fun pk H3 ms sm3 epk hkp => ?_⟩
        have cB : Ch [T.P_ao] H H3 := cA.trans (Ch.of sm3)
        walk_at "w"
        rename_i nd hnd
        have cC : Ch [T.P_ao] H (upd H3 nd (.tup [.str (S op), val, .ref pk])) := cB.new hnd
        have sm23 : Same H2 (upd H3 nd (.tup [.str (S op), val, .ref pk])) := same_of sm3 hnd
        have end_ : upd H3 nd (.tup [.str (S op), val, .ref pk]) nd = some (.tup [.str (S op), val, .ref pk]) := upd_same
        have epk4 : upd H3 nd (.tup [.str (S op), val, .ref pk]) pk = some (.tup (ms.map V.int)) := upd_of hnd epk
        generalize upd H3 nd (.tup [.str (S op), val, .ref pk]) = H4 at cC sm23 end_ epk4 ⊢
        have bk4 := bk2.same sm23
        have htb4 := TabG.keep htb2 fun o e => sm23 _ _ e
        have bt4 := bk4.tbl htb4
        have hk : ND.nk H4 (nkey op kv ms) (.ref nd) := nk_node end_ (ND.nk_keep (fun b ys e => sm23 _ _ (tup2 b ys e)) _ _ hkv) epk4
        have hd := dep_node (op := op) (ns := ms) hkd
        obtain ⟨kvs, hn1, hn2, hn3⟩ := bk4.nums
        walk_at "w"
        refine w_fldT T.cl_Bank T.n_Bank__numbers bk4.obj rfl ?_
        by_cases hin : nkey op kv ms ∈ rs.map (·.1)
        · obtain ⟨i, e1, e2, r, e3, e4⟩ := numOf_some hin
          have epb : putB rs (nkey op kv ms) (S so) = rs := if_pos hin
          refine ⟨t.dn, nd, kvs, _, true, rfl, rfl, hn1, hk, hd, by rw [hn3, e2]; rfl, ?_⟩
          walk_at "w"
          refine w_fldT T.cl_Bank T.n_Bank__numbers bk4.obj rfl ?_
          walk_at "w"
          refine ⟨t.dn, nd, kvs, _, _, rfl, rfl, hn1, hk, hd, (hn3 _).trans e2, ?_⟩
          exact h _ us ms i (cC.sup (by simp)) htb4 hkp (by rw [epb]; exact bk4) (by rw [epb]; exact e2)
        · refine ⟨t.dn, nd, kvs, _, false, rfl, rfl, hn1, hk, hd, by rw [hn3, numOf_none hin]; rfl, ?_⟩
          walk_at "w"
          refine w_fldT T.cl_Bank T.n_Bank__nodes bk4.obj rfl ?_
          walk_at "w"
          have hul : us.length ≤ 500 := by rw [bk.len]; exact hrl
          refine Z.w_tyL bk4.ln ?_
          walk_at "w"
          refine Z.w_app bk4.ln (by rw [List.length_map]; omega) ?_
          walk_at "w"
          have n1 : o ≠ t.ln := ne_ins bk4.obj bk4.ln fun _ _ _ e => nomatch e
          have n2 : o ≠ t.ls := ne_ins bk4.obj bk4.ls fun _ _ _ e => nomatch e
          have n3 : t.ln ≠ t.dn := nd_ne hn1 bk4.ln
          have n4 : t.ls ≠ t.dn := nd_ne hn1 bk4.ls
          have n5 : o ≠ t.dn := nd_nei hn1 bk4.obj
          refine w_fldT T.cl_Bank T.n_Bank__sorts (o := o) (by rw [upd_ne n1]; exact bk4.obj) rfl ?_
          have els5 : upd H4 t.ln (.lst (us.map V.ref ++ [.ref nd])) t.ls = some (.lst (rs.map fun r => V.str r.2)) := by rw [upd_ne bk.ne.symm]; exact bk4.ls
          walk_at "w"
          refine Z.w_tyL els5 ?_
          walk_at "w"
          refine Z.w_app els5 (by rw [List.length_map]; omega) ?_
          have H7o : upd (upd H4 t.ln (.lst (us.map V.ref ++ [.ref nd]))) t.ls (.lst ((rs.map fun r => V.str r.2) ++ [.str (S so)])) o = some (.ins T.C_Bank t.dx t.fs) := by rw [upd_ne n2, upd_ne n1]; exact bk4.obj
          have H7n : upd (upd H4 t.ln (.lst (us.map V.ref ++ [.ref nd]))) t.ls (.lst ((rs.map fun r => V.str r.2) ++ [.str (S so)])) t.ln = some (.lst (us.map V.ref ++ [.ref nd])) := by rw [upd_ne bk.ne, upd_same]
          have H7s : upd (upd H4 t.ln (.lst (us.map V.ref ++ [.ref nd]))) t.ls (.lst ((rs.map fun r => V.str r.2) ++ [.str (S so)])) t.ls = some (.lst ((rs.map fun r => V.str r.2) ++ [.str (S so)])) := upd_same
          have H7t : ∀ b ys, H4 b = some (.tup ys) → upd (upd H4 t.ln (.lst (us.map V.ref ++ [.ref nd]))) t.ls (.lst ((rs.map fun r => V.str r.2) ++ [.str (S so)])) b = some (.tup ys) := fun b ys e => by
            rw [upd_ne (fun z => by rw [z, bk4.ls] at e; cases e), upd_ne (fun z => by rw [z, bk4.ln] at e; cases e)]
            exact e
          have H7d : ∀ u, H4 t.dn = some u → upd (upd H4 t.ln (.lst (us.map V.ref ++ [.ref nd]))) t.ls (.lst ((rs.map fun r => V.str r.2) ++ [.str (S so)])) t.dn = some u := fun u e => by
            rw [upd_ne n4.symm, upd_ne n3.symm]
            exact e
          have H7c : Ch [t.ln, t.ls, t.dn, T.P_ao] H (upd (upd H4 t.ln (.lst (us.map V.ref ++ [.ref nd]))) t.ls (.lst ((rs.map fun r => V.str r.2) ++ [.str (S so)]))) := ((cC.sup (by simp)).put (by simp)).put (by simp)
          have H7p : GxR.TabG (upd (upd H4 t.ln (.lst (us.map V.ref ++ [.ref nd]))) t.ls (.lst ((rs.map fun r => V.str r.2) ++ [.str (S so)]))) T.P_ao := TabG.keep htb4 fun o e => by rw [upd_ne bt4.2.2.1.symm, upd_ne bt4.2.1.symm]; exact e
          generalize upd (upd H4 t.ln (.lst (us.map V.ref ++ [.ref nd]))) t.ls (.lst ((rs.map fun r => V.str r.2) ++ [.str (S so)])) = H7 at H7o H7n H7s H7t H7d H7c H7p ⊢
          have hn7 : ND.ND P w H7 t.dn kvs := hn1.keep H7d H7t
          have hk7 := ND.nk_keep H7t _ _ hk
          walk_at "w"
          refine w_fldT T.cl_Bank T.n_Bank__nodes H7o rfl ?_
          walk_at "w"
          refine w_fldT T.cl_Bank T.n_Bank__numbers H7o rfl ?_
          walk_at "w"
          have hkl : kvs.length < sizeLine := Nat.lt_of_le_of_lt (by rw [hn2]; exact hrl : kvs.length ≤ 500) (by decide)
          refine ⟨t.dn, nd, kvs, _, rfl, rfl, hn7, hk7, hd, hkl, fun o2 hn8 => ?_⟩
          have H8t : ∀ b ys, H7 b = some (.tup ys) → upd H7 t.dn o2 b = some (.tup ys) := fun b ys e => by
            rw [upd_ne (hn7.not_tup e)]
            exact e
          have hk8 := ND.nk_keep H8t _ _ hk7
          have H8o : upd H7 t.dn o2 o = some (.ins T.C_Bank t.dx t.fs) := by rw [upd_ne n5]; exact H7o
          have H8n : upd H7 t.dn o2 t.ln = some (.lst (us.map V.ref ++ [.ref nd])) := by rw [upd_ne n3]; exact H7n
          have H8s : upd H7 t.dn o2 t.ls = some (.lst ((rs.map fun r => V.str r.2) ++ [.str (S so)])) := by rw [upd_ne n4]; exact H7s
          have H8c : Ch [t.ln, t.ls, t.dn, T.P_ao] H (upd H7 t.dn o2) := H7c.put (by simp)
          have H8p : GxR.TabG (upd H7 t.dn o2) T.P_ao := TabG.keep H7p fun o e => by rw [upd_ne bt4.2.2.2.symm]; exact e
          generalize upd H7 t.dn o2 = H8 at hn8 H8t hk8 H8o H8n H8s H8c H8p ⊢
          have eln : (us.map V.ref ++ [V.ref nd]).length = rs.length + 1 := by rw [List.length_append, List.length_map, bk.len]; rfl
          rw [eln] at hn8
          walk_at "w"
          refine w_fldT T.cl_Bank T.n_Bank__numbers H8o rfl ?_
          walk_at "w"
          refine ⟨t.dn, nd, _, _, _, rfl, rfl, hn8, hk8, hd, by rw [valV_put, if_pos rfl], ?_⟩
          have epb : putB rs (nkey op kv ms) (S so) = rs ++ [(nkey op kv ms, S so)] := if_neg hin
          refine h H8 (us ++ [nd]) ms rs.length H8c H8p hkp ?_ ?_
          · rw [epb]
            refine ⟨H8o, bk.ne, by rw [List.map_append]; exact H8n, by rw [List.map_append]; exact H8s, by rw [List.length_append, List.length_append, bk.len]; rfl, fun i r a e1 e2 => ?_, _, hn8, ?_, fun k => ?_⟩
            · by_cases hi : i < rs.length
              · rw [List.getElem?_append_left hi] at e1
                rw [List.getElem?_append_left (by rw [bk.len]; exact hi)] at e2
                obtain ⟨g1, g2⟩ := bk4.nk i r a e1 e2
                exact ⟨ND.nk_keep H8t _ _ (ND.nk_keep H7t _ _ g1), g2⟩
              · have hl := (List.getElem?_eq_some_iff.mp e1).1
                rw [List.length_append, List.length_singleton] at hl
                obtain rfl : i = rs.length := by omega
                rw [List.getElem?_append_right (Nat.le_refl _), Nat.sub_self] at e1
                rw [← bk.len, List.getElem?_append_right (Nat.le_refl _), Nat.sub_self] at e2
                obtain rfl := Option.some.inj e1
                obtain rfl := Option.some.inj e2
                exact ⟨hk8, hd⟩
            · rw [putK_new _ ((hn3 _).trans (numOf_none hin)), List.length_append, hn2, List.length_append]
              rfl
            · rw [valV_put, numOf_snoc hin, hn3]
              rfl
          · rw [epb, numOf_snoc hin, if_pos rfl]
end
end L

namespace L
open PySem PySem.Spec PyProof.Rows L2 Z M
open _root_.SX (S S_len S_inj)
section
variable {P : Program} {w : World} {K : PySem.W.Frag} {mg : Str → Option Value} {base : Heap}
/-- the number of a node, 0 where it isn't -/
def seekV (rs : List BRow) (k : NestedKey) : Int := match (rs.map (·.1)).idxOf? k with
  | some i => (i : Int) + 1
  | none => 0
theorem seekV_num (rs : List BRow) (k : NestedKey) : (numOf rs k).getD (.int 0) = .int (seekV rs k) := by
  unfold numOf seekV
  cases (rs.map (·.1)).idxOf? k <;> rfl
def spSeek (P : Program) (w : World) (CB : Addr) : Sp := fun vs H Q _ => ∃ (o : Addr) (t : BkO) (us : List Addr) (rs : List BRow) (op : List Nat) (val : V) (kv : NestedKey) (ns : List Int) (pa : Addr), vs = [.ref o, .str (S op), val, .ref pa] ∧ BkAt P w CB H o t us rs ∧ (H pa = some (.lst (ns.map V.int)) ∨ H pa = some (.tup (ns.map V.int))) ∧ ns.length ≤ 50 ∧ ND.nk H kv val ∧ kv.depth ≤ 6 ∧
  ∀ H' ms, Same H H' → Kept op ns ms → Q (.int (seekV rs (nkey op kv ms))) H'
theorem ok_seek (T : Txt K mg) : FnOk P w K mg base CX0 3 T.f_Bank_seek T.fd_Bank_seek ["self", "op", "value", "parts"] (spSeek P w T.C_Bank) := by
  have G_parts_kept := ok_parts (P := P) (w := w) (base := base) T
  refine T.F_Bank_seek.ok sc_Bank_seek (fun vs H Q E h => ?_) (fun cdv A outer s H vs Q E hr h => ?_)
  · obtain ⟨o, t, us, rs, op, val, kv, ns, pa, rfl, _⟩ := h
    rfl
  · obtain ⟨o, t, us, rs, op, val, kv, ns, pa, rfl, bk, ep, hnl, hkv, hkd, h⟩ := h
    obtain ⟨kvs, hn1, hn2, hn3⟩ := bk.nums
    refine ⟨_, (pss_one (ps_ret (ND.pe_ndget2 (ND.hu9_of hr) (pe_fld (pv 0) rfl) (pe_tup (pa_cons (pv 1) (pa_cons (pv 2) (pa_cons (pe_call G_parts_kept (hr.mono (by first | decide | omega)) (by rfl) T.g_parts_kept T.F_parts_kept.kp T.b_parts_kept .nil pass0 (pa_cons (pv 1) (pa_cons (pv 3) pa_nil))) pa_nil)))) pe_int ⟨rfl, rfl, rfl, rfl⟩))), ?_⟩
    refine Z.w_start (σ' := [some (.ref o), some (.str (S op)), some val, some (.ref pa)]) rfl ?_
    walk_at "w"
    refine w_fldT T.cl_Bank T.n_Bank__numbers bk.obj rfl ?_
    refine ⟨t.dn, kvs, rfl, hn1, ?_⟩
    walk_at "w"
    refine ⟨op, pa, ns, rfl, ep, hnl, fun pk H3 ms sm3 epk hkp => ?_⟩
    walk_at "w"
    rename_i nd hnd
    have smC : Same H (upd H3 nd (.tup [.str (S op), val, .ref pk])) := same_of sm3 hnd
    have end_ : upd H3 nd (.tup [.str (S op), val, .ref pk]) nd = some (.tup [.str (S op), val, .ref pk]) := upd_same
    have epk4 : upd H3 nd (.tup [.str (S op), val, .ref pk]) pk = some (.tup (ms.map V.int)) := upd_of hnd epk
    generalize upd H3 nd (.tup [.str (S op), val, .ref pk]) = H4 at smC end_ epk4 ⊢
    have hk : ND.nk H4 (nkey op kv ms) (.ref nd) := nk_node end_ (ND.nk_keep (fun b ys e => smC _ _ e) _ _ hkv) epk4
    refine ⟨nd, kvs, _, rfl, hn1.keep (fun o e => smC _ _ e) (fun b ys e => smC _ _ e), hk, dep_node hkd, ?_⟩
    rw [hn3, seekV_num]
    exact h H4 ms smC hkp
end
end L

namespace L
open PySem PySem.Spec PyProof.Rows L2 Z M
open _root_.SX (S S_len S_inj)
section
variable {P : Program} {w : World} {K : PySem.W.Frag} {mg : Str → Option Value} {base : Heap}
abbrev TRUTH : List Nat := [116, 114, 117, 116, 104]
def rs0 : List BRow := [(nkey [116, 114, 117, 101] .none [], S TRUTH), (nkey [102, 97, 108, 115, 101] .none [], S TRUTH)]
theorem key_ne {op op' : List Nat} {k k' : NestedKey} {ns ns' : List Int} (h : op ≠ op') : nkey op k ns ≠ nkey op' k' ns' := fun e => by
  unfold nkey at e
  injection e with e
  injection e with e _
  injection e with e
  exact h (S_inj e)
theorem sigAt_ne {C CB : Addr} {H : Hp} {o x dx : Addr} {t : SgO} {ss : List Str} {fs : List FnRow} (h : SigAt C H o t ss fs) (hx : H x = some (.ins CB dx [])) : x ≠ o := fun e => by
  rw [e, h.obj] at hx
  have z := Option.some.inj hx
  injection z with _ _ z
  exact nomatch z
def spBkInit (P : Program) (w : World) (CB CS Pt : Addr) : Sp := fun vs H Q _ => ∃ (x dx sg : Addr) (tg : SgO) (ss : List Str) (fs : List FnRow), vs = [.ref x, .ref sg] ∧ H x = some (.ins CB dx []) ∧ SigAt CS H sg tg ss fs ∧ GxR.TabG H Pt ∧
  ∀ H' t us, Ch [x, Pt] H H' → GxR.TabG H' Pt → t.sg = sg → BkAt P w CB H' x t us rs0 → H t.ln = none → H t.ls = none → H t.dn = none → Q .non H'
theorem ok_bkInit (T : Txt K mg) (W : Tw K mg T w) (TB : GxR.TabB base mg T.c_ao T.P_ao) : FnOk P w K mg base CX0 6 T.f_Bank_init T.fd_Bank_init ["self", "signature"] (spBkInit P w T.C_Bank T.C_Signature T.P_ao) := by
  have G_Bank_make := ok_make (P := P) (base := base) T W TB
  refine T.F_Bank_init.ok sc_Bank_init (fun vs H Q E h => ?_) (fun cdv A outer s H vs Q E hr h => ?_)
  · obtain ⟨x, dx, sg, tg, ss, fs, rfl, _⟩ := h
    rfl
  · obtain ⟨x, dx, sg, tg, ss, fs, rfl, hx, sgA, htb, h⟩ := h
    have nsg := sigAt_ne sgA hx
    refine ⟨_, (pss_cons (ps_fld (pv 0) (pv 1) rfl)
 (pss_cons (ps_fld (pv 0) (pe_lst pa_nil) rfl)
 (pss_cons (ps_fld (pv 0) (pe_lst pa_nil) rfl)
 (pss_cons (ps_fld (pv 0) pe_dnewK rfl)
 (pss_cons (ps_expr (pe_meth (pv 0) T.cl_Bank T.M_Bank_make G_Bank_make (hr.mono (by first | decide | omega)) T.b_Bank_make .nil pass0 (pa_cons (MT.pe_strS (l := [116, 114, 117, 101]) (by decide +kernel)) (pa_cons pe_non (pa_cons (pe_tup pa_nil) pa_nil)))))
 (pss_one (ps_expr (pe_meth (pv 0) T.cl_Bank T.M_Bank_make G_Bank_make (hr.mono (by first | decide | omega)) T.b_Bank_make .nil pass0 (pa_cons (MT.pe_strS (l := [102, 97, 108, 115, 101]) (by decide +kernel)) (pa_cons pe_non (pa_cons (pe_tup pa_nil) pa_nil))))))))))), ?_⟩
    refine Z.w_start (σ' := [some (.ref x), some (.ref sg)]) rfl ?_
    walk_at "w"
    refine w_fld (Z.w_var (v := V.ref sg) rfl (Z.w_var (v := V.ref x) rfl ⟨x, _, dx, [], rfl, hx, T.cl_Bank, T.n_Bank_signature, by decide, ?_⟩))
    walk_at "w"
    refine w_fld (Z.w_lst (Z.w_nil ⟨Nat.zero_le _, fun l1 hl1 => Z.w_var (v := V.ref x) rfl ⟨x, _, dx, _, rfl, upd_of hl1 upd_same, T.cl_Bank, T.n_Bank__nodes, (by show 1 < 1000; decide), ?_⟩⟩))
    have n1 : l1 ≠ x := fun e => by rw [e, upd_same] at hl1; cases hl1
    have f1 : H l1 = none := by rwa [upd_ne n1] at hl1
    walk_at "w"
    refine w_fld (Z.w_lst (Z.w_nil ⟨Nat.zero_le _, fun l2 hl2 => Z.w_var (v := V.ref x) rfl ⟨x, _, dx, _, rfl, upd_of hl2 upd_same, T.cl_Bank, T.n_Bank__sorts, (by show 2 < 1000; decide), ?_⟩⟩))
    have n2 : l2 ≠ x := fun e => by rw [e, upd_same] at hl2; cases hl2
    have n21 : l2 ≠ l1 := fun e => by rw [upd_ne n2, e, upd_same] at hl2; cases hl2
    have f2 : H l2 = none := by rwa [upd_ne n2, upd_ne n21, upd_ne n2] at hl2
    walk_at "w"
    refine w_fld (Z.w_dnew fun l3 hl3 => Z.w_var (v := V.ref x) rfl ⟨x, _, dx, _, rfl, upd_of hl3 upd_same, T.cl_Bank, T.n_Bank__numbers, (by show 3 < 1000; decide), ?_⟩)
    have n3 : l3 ≠ x := fun e => by rw [e, upd_same] at hl3; cases hl3
    have n32 : l3 ≠ l2 := fun e => by rw [upd_ne n3, e, upd_same] at hl3; cases hl3
    have n31 : l3 ≠ l1 := fun e => by rw [upd_ne n3, upd_ne n32, upd_ne n3, e, upd_same] at hl3; cases hl3
    have f3 : H l3 = none := by rwa [upd_ne n3, upd_ne n32, upd_ne n3, upd_ne n31, upd_ne n3] at hl3
    rw [show putF _ (V.ref l3) _ = (BkO.mk dx sg l1 l2 l3).fs from rfl]
    have c5 : Ch [x] H (upd (upd (upd (upd (upd (upd (upd H x (.ins T.C_Bank dx (putF "signature" (V.ref sg) []))) l1 (.lst [])) x (.ins T.C_Bank dx (putF "_nodes" (V.ref l1) (putF "signature" (V.ref sg) [])))) l2 (.lst [])) x (.ins T.C_Bank dx (putF "_sorts" (V.ref l2) (putF "_nodes" (V.ref l1) (putF "signature" (V.ref sg) []))))) l3 (.dK [])) x (.ins T.C_Bank dx (BkO.mk dx sg l1 l2 l3).fs)) :=
      (((((((Ch.refl _ _).put (by simp)).own f1).put (by simp)).own f2).put (by simp)).own f3).put (by simp)
    have o5 : upd (upd (upd (upd (upd (upd (upd H x (.ins T.C_Bank dx (putF "signature" (V.ref sg) []))) l1 (.lst [])) x (.ins T.C_Bank dx (putF "_nodes" (V.ref l1) (putF "signature" (V.ref sg) [])))) l2 (.lst [])) x (.ins T.C_Bank dx (putF "_sorts" (V.ref l2) (putF "_nodes" (V.ref l1) (putF "signature" (V.ref sg) []))))) l3 (.dK [])) x (.ins T.C_Bank dx (BkO.mk dx sg l1 l2 l3).fs) x = some (.ins T.C_Bank dx (BkO.mk dx sg l1 l2 l3).fs) := upd_same
    have a5 : upd (upd (upd (upd (upd (upd (upd H x (.ins T.C_Bank dx (putF "signature" (V.ref sg) []))) l1 (.lst [])) x (.ins T.C_Bank dx (putF "_nodes" (V.ref l1) (putF "signature" (V.ref sg) [])))) l2 (.lst [])) x (.ins T.C_Bank dx (putF "_sorts" (V.ref l2) (putF "_nodes" (V.ref l1) (putF "signature" (V.ref sg) []))))) l3 (.dK [])) x (.ins T.C_Bank dx (BkO.mk dx sg l1 l2 l3).fs) l1 = some (.lst []) := by
      rw [upd_ne n1, upd_ne n31.symm, upd_ne n1, upd_ne n21.symm, upd_ne n1, upd_same]
    have b5 : upd (upd (upd (upd (upd (upd (upd H x (.ins T.C_Bank dx (putF "signature" (V.ref sg) []))) l1 (.lst [])) x (.ins T.C_Bank dx (putF "_nodes" (V.ref l1) (putF "signature" (V.ref sg) [])))) l2 (.lst [])) x (.ins T.C_Bank dx (putF "_sorts" (V.ref l2) (putF "_nodes" (V.ref l1) (putF "signature" (V.ref sg) []))))) l3 (.dK [])) x (.ins T.C_Bank dx (BkO.mk dx sg l1 l2 l3).fs) l2 = some (.lst []) := by
      rw [upd_ne n2, upd_ne n32.symm, upd_ne n2, upd_same]
    have d5 : upd (upd (upd (upd (upd (upd (upd H x (.ins T.C_Bank dx (putF "signature" (V.ref sg) []))) l1 (.lst [])) x (.ins T.C_Bank dx (putF "_nodes" (V.ref l1) (putF "signature" (V.ref sg) [])))) l2 (.lst [])) x (.ins T.C_Bank dx (putF "_sorts" (V.ref l2) (putF "_nodes" (V.ref l1) (putF "signature" (V.ref sg) []))))) l3 (.dK [])) x (.ins T.C_Bank dx (BkO.mk dx sg l1 l2 l3).fs) l3 = some (.dK []) := by
      rw [upd_ne n3, upd_same]
    generalize upd (upd (upd (upd (upd (upd (upd H x (.ins T.C_Bank dx (putF "signature" (V.ref sg) []))) l1 (.lst [])) x (.ins T.C_Bank dx (putF "_nodes" (V.ref l1) (putF "signature" (V.ref sg) [])))) l2 (.lst [])) x (.ins T.C_Bank dx (putF "_sorts" (V.ref l2) (putF "_nodes" (V.ref l1) (putF "signature" (V.ref sg) []))))) l3 (.dK [])) x (.ins T.C_Bank dx (BkO.mk dx sg l1 l2 l3).fs) = H5 at c5 o5 a5 b5 d5 ⊢
    have bk5 : BkAt P w T.C_Bank H5 x ⟨dx, sg, l1, l2, l3⟩ [] [] := ⟨o5, n21.symm, a5, b5, rfl, (fun i r a e => by simp at e), [], .inr ⟨rfl, d5⟩, rfl, fun k => rfl⟩
    obtain ⟨ks, hs, _⟩ := sgA.so
    obtain ⟨kf, hf, _⟩ := sgA.fu
    have nds : x ≠ tg.ds := ne_ins hx hs fun _ _ _ e => nomatch e
    have ndf : x ≠ tg.df := ne_ins hx hf fun _ _ _ e => nomatch e
    have sg5 : SigAt T.C_Signature H5 sg tg ss fs := sgA.ch c5 (fun b hb ys e => by rw [List.mem_singleton.mp hb, hx] at e; cases e) fun b hb => by rw [List.mem_singleton.mp hb]; exact ⟨nsg, nds, ndf⟩
    have m1 : l1 ≠ sg ∧ l1 ≠ tg.ds ∧ l1 ≠ tg.df := ⟨(ne_of_none sgA.obj f1).symm, (ne_of_none hs f1).symm, (ne_of_none hf f1).symm⟩
    have m2 : l2 ≠ sg ∧ l2 ≠ tg.ds ∧ l2 ≠ tg.df := ⟨(ne_of_none sgA.obj f2).symm, (ne_of_none hs f2).symm, (ne_of_none hf f2).symm⟩
    have m3 : l3 ≠ sg ∧ l3 ≠ tg.ds ∧ l3 ≠ tg.df := ⟨(ne_of_none sgA.obj f3).symm, (ne_of_none hs f3).symm, (ne_of_none hf f3).symm⟩
    obtain ⟨tu, htu⟩ : ∃ u, H T.P_ao = some u := htb.elim fun ps hp => ⟨_, hp.1⟩
    have q1 : l1 ≠ T.P_ao := (ne_of_none htu f1).symm
    have q2 : l2 ≠ T.P_ao := (ne_of_none htu f2).symm
    have q3 : l3 ≠ T.P_ao := (ne_of_none htu f3).symm
    have q4 : x ≠ T.P_ao := tbl_ne htb hx fun _ z => nomatch z
    have htb5 := TabG.keep htb fun o e => c5 _ _ (fun z => q4 (List.mem_singleton.mp z).symm) e
    have c5' : Ch [l1, l2, l3, T.P_ao, x] H H5 := c5.sup (by simp)
    have sgt := sgA.tbl htb
    have m4 : T.P_ao ≠ sg ∧ T.P_ao ≠ tg.ds ∧ T.P_ao ≠ tg.df := ⟨sgt.1.symm, sgt.2.1.symm, sgt.2.2.symm⟩
    walk_at "w"
    refine w_meth0 o5 rfl (by rfl) ?_
    walk_at "w"
    rename_i p1 hp1
    have c6 : Ch [l1, l2, l3, T.P_ao, x] H (upd H5 p1 (.tup [])) := c5'.new hp1
    have s6 : Same H5 (upd H5 p1 (.tup [])) := same_of (Same.refl _) hp1
    have e6 : upd H5 p1 (.tup []) p1 = some (.tup []) := upd_same
    generalize upd H5 p1 (.tup []) = H6 at c6 s6 e6 ⊢
    have sg6 := sg5.same s6
    have htb6 := TabG.keep htb5 fun o e => s6 _ _ e
    have so0 : ∀ rs : List BRow, SortsOf rs [] [] := fun rs => ⟨rfl, fun j n a e => by simp at e⟩
    refine ⟨x, ⟨dx, sg, l1, l2, l3⟩, [], [], tg, ss, fs, [116, 114, 117, 101], .non, .none, [], p1, [], TRUTH, rfl, bk5.same s6, sg6, .inr e6, by decide, by decide, by unfold ND.nk; rfl, by decide, so0 _, .inr (.inr (.inl ⟨TRUTH, by decide, rfl, rfl⟩)), htb6, fun H7 us7 ms7 i7 c7 htb7 hk7 bk7 _ => ?_⟩
    obtain rfl : ms7 = [] := List.length_eq_zero_iff.mp hk7.len
    have bt6 := (bk5.same s6).nt
    have sg7 : SigAt T.C_Signature H7 sg tg ss fs := sg6.ch c7 (fun b hb ys e => by
      have q := bk5.same s6
      rcases List.mem_cons.mp hb with z | hb
      · rw [z, q.ln] at e; cases e
      rcases List.mem_cons.mp hb with z | hb
      · rw [z, q.ls] at e; cases e
      rcases List.mem_cons.mp hb with z | hb
      · rw [z, show H6 l3 = some (.dK []) from s6 _ _ d5] at e; cases e
      · exact nt_tbl htb6 b hb ys e) fun b hb => by
      rcases List.mem_cons.mp hb with z | hb
      · rw [z]; exact m1
      rcases List.mem_cons.mp hb with z | hb
      · rw [z]; exact m2
      rcases List.mem_cons.mp hb with z | hb
      · rw [z]; exact m3
      · rw [List.mem_singleton.mp hb]; exact m4
    have c7' : Ch [l1, l2, l3, T.P_ao, x] H H7 := c6.trans (c7.sup (by simp))
    walk_at "w"
    refine w_meth0 bk7.obj rfl (by rfl) ?_
    walk_at "w"
    rename_i p2 hp2
    have c8 : Ch [l1, l2, l3, T.P_ao, x] H (upd H7 p2 (.tup [])) := c7'.new hp2
    have s8 : Same H7 (upd H7 p2 (.tup [])) := same_of (Same.refl _) hp2
    have e8 : upd H7 p2 (.tup []) p2 = some (.tup []) := upd_same
    generalize upd H7 p2 (.tup []) = H8 at c8 s8 e8 ⊢
    have htb8 := TabG.keep htb7 fun o e => s8 _ _ e
    refine ⟨x, ⟨dx, sg, l1, l2, l3⟩, us7, _, tg, ss, fs, [102, 97, 108, 115, 101], .non, .none, [], p2, [], TRUTH, rfl, bk7.same s8, sg7.same s8, .inr e8, by decide, by decide, by unfold ND.nk; rfl, by decide, so0 _, .inr (.inr (.inl ⟨TRUTH, by decide, rfl, rfl⟩)), htb8, fun H9 us9 ms9 i9 c9 htb9 hk9 bk9 _ => ?_⟩
    obtain rfl : ms9 = [] := List.length_eq_zero_iff.mp hk9.len
    have c9' : Ch [l1, l2, l3, T.P_ao, x] H H9 := c8.trans (c9.sup (by simp))
    have er : putB (putB [] (nkey [116, 114, 117, 101] .none []) (S TRUTH)) (nkey [102, 97, 108, 115, 101] .none []) (S TRUTH) = rs0 := by
      have e1 : putB [] (nkey [116, 114, 117, 101] .none []) (S TRUTH) = [(nkey [116, 114, 117, 101] .none [], S TRUTH)] := if_neg (by simp)
      rw [e1]
      refine if_neg ?_
      show ¬ _ ∈ [nkey [116, 114, 117, 101] .none []]
      rw [List.mem_singleton]
      exact key_ne (by decide)
    rw [er] at bk9
    refine h H9 ⟨dx, sg, l1, l2, l3⟩ us9 (fun b y n e => ?_) htb9 rfl bk9 f1 f2 f3
    refine c9' b y (fun z => ?_) e
    rcases List.mem_cons.mp z with z | z
    · rw [z, f1] at e; cases e
    rcases List.mem_cons.mp z with z | z
    · rw [z, f2] at e; cases e
    rcases List.mem_cons.mp z with z | z
    · rw [z, f3] at e; cases e
    rcases List.mem_cons.mp z with z | z
    · exact n (by rw [z]; simp)
    · exact n (by rw [List.mem_singleton.mp z]; simp)
end
end L

namespace L
open PySem PySem.Spec PyProof.Rows L2 Z M
open _root_.SX (S S_len S_inj)
/-! rows of a bank, and what fits -/
structure GRow where
  op : List Nat
  kv : NestedKey
  ns : List Int
  so : List Nat
def GRow.k (g : GRow) : NestedKey := nkey g.op g.kv g.ns
def GRow.b (g : GRow) : BRow := (g.k, S g.so)
structure WRow where
  name : List Nat
  args : List (List Nat)
  res : List Nat
def WRow.fn (r : WRow) : FnRow := (S r.name, r.args.map S, S r.res)
abbrev WHOLE : List Nat := [119, 104, 111, 108, 101]
abbrev RATIO : List Nat := [114, 97, 116, 105, 111]
abbrev TRUEc : List Nat := [116, 114, 117, 101]
abbrev FALSEc : List Nat := [102, 97, 108, 115, 101]
abbrev NOTo : List Nat := [110, 111, 116]
abbrev ANDo : List Nat := [97, 110, 100]
abbrev ORo : List Nat := [111, 114]
abbrev IMPo : List Nat := [105, 109, 112, 108, 121]
abbrev EQo : List Nat := [101, 113, 117, 97, 108]
abbrev DISo : List Nat := [100, 105, 115, 116, 105, 110, 99, 116]
abbrev MOSTo : List Nat := [109, 111, 115, 116]
abbrev LESSo : List Nat := [108, 101, 115, 115]
abbrev SHIo : List Nat := [115, 104, 105, 102, 116]
abbrev SUMo : List Nat := [115, 117, 109]
abbrev SCAo : List Nat := [115, 99, 97, 108, 101]
abbrev CALLo : List Nat := [99, 97, 108, 108]
abbrev IFo : List Nat := [105, 102]
abbrev vS (l : List Nat) : V := .str (S l)
/-- op with that value over parts of those sorts has that sort -/
inductive fitS (rows : List WRow) : List Nat → NestedKey → List (List Nat) → List Nat → Prop
  | call (r : WRow) (h : r ∈ rows) : fitS rows CALLo (.text (S r.name)) r.args r.res
  | ite (a : List Nat) : fitS rows IFo .none [TRUTH, a, a] a
  | tr : fitS rows TRUEc .none [] TRUTH
  | fa : fitS rows FALSEc .none [] TRUTH
  | whole (i : Int) (h : i.natAbs ≤ 10 ^ 17) : fitS rows WHOLE (.num i) [] WHOLE
  | ratio (p q : Int) : fitS rows RATIO (.tup [.num p, .num q]) [] RATIO
  | shift (i : Int) (h : i.natAbs ≤ 10 ^ 17) : fitS rows SHIo (.num i) [WHOLE] WHOLE
  | scale (p q : Int) : fitS rows SCAo (.tup [.num p, .num q]) [RATIO] RATIO
  | sum (ls : List (List Nat)) (h : 2 ≤ ls.length) (h2 : ∀ x ∈ ls, x = RATIO) : fitS rows SUMo .none ls RATIO
  | neg : fitS rows NOTo .none [TRUTH] TRUTH
  | and (ls : List (List Nat)) (h2 : ∀ x ∈ ls, x = TRUTH) : fitS rows ANDo .none ls TRUTH
  | or (ls : List (List Nat)) (h2 : ∀ x ∈ ls, x = TRUTH) : fitS rows ORo .none ls TRUTH
  | imp : fitS rows IMPo .none [TRUTH, TRUTH] TRUTH
  | eq (a : List Nat) : fitS rows EQo .none [a, a] TRUTH
  | dis (a : List Nat) (ls : List (List Nat)) (h : 2 ≤ ls.length) (h2 : ∀ x ∈ ls, x = a) : fitS rows DISo .none ls TRUTH
  | most (a : List Nat) (h : a ∈ numS) : fitS rows MOSTo .none [a, a] TRUTH
  | less (a : List Nat) (h : a ∈ numS) : fitS rows LESSo .none [a, a] TRUTH
theorem allS_of {ls : List (List Nat)} {z : List Nat} (h : ∀ x ∈ ls, x = z) : allS ls z = true := List.all_eq_true.mpr fun x hx => decide_eq_true (h x hx)
theorem lookup_fn {rows : List WRow} {l : List Nat} (h : l ∉ rows.map (·.name)) : (rows.map WRow.fn).lookup (S l) = none := by
  induction rows with
  | nil => rfl
  | cons r rows ih =>
    rw [List.map_cons, List.mem_cons, not_or] at h
    rw [List.map_cons]
    show List.lookup (S l) ((S r.name, r.args.map S, S r.res) :: rows.map WRow.fn) = none
    rw [List.lookup_cons, beq_eq_false_iff_ne.mpr (fun z => h.1 (S_inj z))]
    exact ih h.2
theorem lookup_at {rows : List WRow} (hn : (rows.map (·.name)).Nodup) {r : WRow} (hr : r ∈ rows) : (rows.map WRow.fn).lookup (S r.name) = some (r.args.map S, S r.res) := by
  induction rows with
  | nil => cases hr
  | cons s rows ih =>
    rw [List.map_cons, List.nodup_cons] at hn
    rw [List.map_cons]
    show List.lookup (S r.name) ((S s.name, s.args.map S, S s.res) :: rows.map WRow.fn) = _
    rw [List.lookup_cons]
    by_cases e : r.name = s.name
    · rw [e, beq_self_eq_true]
      rcases List.mem_cons.mp hr with rfl | hr
      · rfl
      · exact absurd (List.mem_map.mpr ⟨r, hr, e⟩) hn.1
    · rw [beq_eq_false_iff_ne.mpr (fun z => e (S_inj z))]
      rcases List.mem_cons.mp hr with rfl | hr
      · exact absurd rfl e
      · exact ih hn.2 hr
theorem fit_mk {rows : List WRow} (hn : (rows.map (·.name)).Nodup) (hlay : ∀ r ∈ rows, ∀ l ∈ r.args, PyData.canLay0 (.str (S l)) = true) {op : List Nat} {kv : NestedKey} {ls : List (List Nat)} {so : List Nat} {H : Hp} {val : V} (hv : ND.nk H kv val) (h : fitS rows op kv ls so) : mkSort (rows.map WRow.fn) op val ls (some so) := by
  cases h with
  | call r hr =>
    unfold ND.nk at hv
    exact .inl ⟨rfl, r.name, r.args, r.res, hv, lookup_at hn hr, hlay r hr, rfl, rfl⟩
  | ite a => exact .inr (.inl ⟨rfl, so, rfl, rfl⟩)
  | tr => exact .inr (.inr (.inl ⟨TRUTH, by decide, rfl, rfl⟩))
  | fa => exact .inr (.inr (.inl ⟨TRUTH, by decide, rfl, rfl⟩))
  | whole i h => exact .inr (.inr (.inl ⟨WHOLE, by decide, rfl, rfl⟩))
  | ratio p q => exact .inr (.inr (.inl ⟨RATIO, by decide, rfl, rfl⟩))
  | shift i h => exact .inr (.inr (.inr (.inl ⟨WHOLE, by decide, by decide, rfl⟩)))
  | scale p q => exact .inr (.inr (.inr (.inl ⟨RATIO, by decide, by decide, rfl⟩)))
  | sum _ h h2 => exact .inr (.inr (.inr (.inl ⟨RATIO, by decide, by
      unfold sumB
      rw [if_pos (show SUMo = SUM from rfl), allS_of h2, decide_eq_true h]
      rfl, rfl⟩)))
  | neg => exact .inr (.inr (.inr (.inr (.inl ⟨by decide, by decide, rfl⟩))))
  | and _ h2 => exact .inr (.inr (.inr (.inr (.inl ⟨by decide, by
      unfold conB needN
      rw [allS_of h2, if_neg (show ¬ ANDo = NOTc by decide), if_neg (show ¬ ANDo = IMPc by decide), decide_eq_true rfl]
      rfl, rfl⟩))))
  | or _ h2 => exact .inr (.inr (.inr (.inr (.inl ⟨by decide, by
      unfold conB needN
      rw [allS_of h2, if_neg (show ¬ ORo = NOTc by decide), if_neg (show ¬ ORo = IMPc by decide), decide_eq_true rfl]
      rfl, rfl⟩))))
  | imp => exact .inr (.inr (.inr (.inr (.inl ⟨by decide, by decide, rfl⟩))))
  | eq a => exact .inr (.inr (.inr (.inr (.inr ⟨by decide, by
      show (allS [a, a] a && (decide (EQo = DIST) || (decide (([] : List (List Nat)) = []) && (decide (EQo = EQU) || decide (a ∈ numS))))) = true
      rw [allS_of (by simp), decide_eq_true (show EQo = EQU from rfl), decide_eq_true (show ([] : List (List Nat)) = [] from rfl), Bool.true_or, Bool.true_and, Bool.true_and, Bool.or_true], rfl⟩))))
  | dis a _ h h2 => exact .inr (.inr (.inr (.inr (.inr ⟨by decide, by
      match ls, h, h2 with
      | x :: y :: r, h, h2 =>
        have e : ∀ z ∈ x :: y :: r, z = x := fun z hz => (h2 z hz).trans (h2 x (by simp)).symm
        show (allS (x :: y :: r) x && (decide (DISo = DIST) || _)) = true
        rw [allS_of e, decide_eq_true (show DISo = DIST from rfl)]
        rfl
      | [_], h, _ => exact absurd (show 2 ≤ 1 from h) (by decide)
      | [], h, _ => exact absurd (show 2 ≤ 0 from h) (by decide), rfl⟩))))
  | most a h => exact .inr (.inr (.inr (.inr (.inr ⟨by decide, by
      show (allS [a, a] a && (decide (MOSTo = DIST) || (decide (([] : List (List Nat)) = []) && (decide (MOSTo = EQU) || decide (a ∈ numS))))) = true
      rw [allS_of (by simp), decide_eq_true h, Bool.or_true, decide_eq_true (show ([] : List (List Nat)) = [] from rfl), Bool.true_and, Bool.true_and, Bool.or_true], rfl⟩))))
  | less a h => exact .inr (.inr (.inr (.inr (.inr ⟨by decide, by
      show (allS [a, a] a && (decide (LESSo = DIST) || (decide (([] : List (List Nat)) = []) && (decide (LESSo = EQU) || decide (a ∈ numS))))) = true
      rw [allS_of (by simp), decide_eq_true h, Bool.or_true, decide_eq_true (show ([] : List (List Nat)) = [] from rfl), Bool.true_and, Bool.true_and, Bool.or_true], rfl⟩))))
/-- the sort of a number -/
def soG (gs : List GRow) (n : Int) : List Nat := ((gs[(n - 1).toNat]?).map GRow.so).getD []
def ValG (gs : List GRow) (n : Int) : Prop := 1 ≤ n ∧ n ≤ (gs.length : Int)
def Fits (rows : List WRow) (gs : List GRow) (op : List Nat) (kv : NestedKey) (ns : List Int) (so : List Nat) : Prop := (∀ n ∈ ns, ValG gs n) ∧ fitS rows op kv (ns.map (soG gs)) so
theorem soG_app {gs gs2 : List GRow} {n : Int} (h : ValG gs n) : soG (gs ++ gs2) n = soG gs n := by
  unfold soG
  unfold ValG at h
  rw [List.getElem?_append_left (by omega)]
theorem Fits.app {rows : List WRow} {gs gs2 : List GRow} {op : List Nat} {kv : NestedKey} {ns : List Int} {so : List Nat} (h : Fits rows gs op kv ns so) : Fits rows (gs ++ gs2) op kv ns so := by
  refine ⟨fun n hn => ?_, ?_⟩
  · have := h.1 n hn
    unfold ValG at this ⊢
    rw [List.length_append]
    omega
  · rw [List.map_congr_left (g := soG gs) fun n hn => soG_app (h.1 n hn)]
    exact h.2
theorem Fits.sorts {rows : List WRow} {gs : List GRow} {op : List Nat} {kv : NestedKey} {ns : List Int} {so : List Nat} (h : Fits rows gs op kv ns so) : SortsOf (gs.map GRow.b) ns (ns.map (soG gs)) := by
  refine ⟨List.length_map _, fun j n a e1 e2 => ?_⟩
  rw [List.getElem?_map, e1] at e2
  obtain rfl := Option.some.inj e2
  have hv := h.1 n (List.mem_of_getElem? e1)
  unfold ValG at hv
  have hi : gs[(n - 1).toNat]? = some gs[(n - 1).toNat] := List.getElem?_eq_getElem (by omega)
  refine ⟨(n - 1).toNat, gs[(n - 1).toNat].b, by omega, by rw [List.getElem?_map, hi]; rfl, ?_⟩
  unfold soG
  rw [hi]
  rfl
/-- the ops whose parts may be turned round -/
def revOps : List (List Nat) := [EQo, ANDo, ORo, IMPo, DISo, MOSTo, LESSo, SUMo]
theorem two_perm {a : List Nat} {ls : List (List Nat)} (h : ls.Perm [a, a]) : ls = [a, a] := by
  have hl := h.length_eq
  match ls, hl, h with
  | [x, y], _, h =>
    have hx := h.mem_iff.mp (show x ∈ [x, y] by simp)
    have hy := h.mem_iff.mp (show y ∈ [x, y] by simp)
    simp at hx hy
    rw [hx, hy]
theorem fit_perm {rows : List WRow} {op : List Nat} {kv : NestedKey} {ls ls' : List (List Nat)} {so : List Nat} (ho : op ∈ revOps) (h : fitS rows op kv ls so) (p : ls'.Perm ls) : fitS rows op kv ls' so := by
  cases h with
  | call r hr => exact absurd ho (by decide)
  | ite a => exact absurd ho (by decide)
  | tr => exact absurd ho (by decide)
  | fa => exact absurd ho (by decide)
  | whole i h => exact absurd ho (by decide)
  | ratio p q => exact absurd ho (by decide)
  | shift i h => exact absurd ho (by decide)
  | scale p q => exact absurd ho (by decide)
  | sum _ h h2 => exact .sum _ (by rw [p.length_eq]; exact h) fun x hx => h2 x (p.mem_iff.mp hx)
  | neg => exact absurd ho (by decide)
  | and _ h2 => exact .and _ fun x hx => h2 x (p.mem_iff.mp hx)
  | or _ h2 => exact .or _ fun x hx => h2 x (p.mem_iff.mp hx)
  | imp => rw [two_perm p]; exact .imp
  | eq a => rw [two_perm p]; exact .eq a
  | dis a _ h h2 => exact .dis a _ (by rw [p.length_eq]; exact h) fun x hx => h2 x (p.mem_iff.mp hx)
  | most a h => rw [two_perm p]; exact .most a h
  | less a h => rw [two_perm p]; exact .less a h
theorem Fits.perm {rows : List WRow} {gs : List GRow} {op : List Nat} {kv : NestedKey} {ns ms : List Int} {so : List Nat} (ho : op ∈ revOps) (h : Fits rows gs op kv ns so) (p : ms.Perm ns) : Fits rows gs op kv ms so := ⟨fun n hn => h.1 n (p.mem_iff.mp hn), fit_perm ho h.2 (p.map _)⟩
theorem Fits.kept {rows : List WRow} {gs : List GRow} {op : List Nat} {kv : NestedKey} {ns ms : List Int} {so : List Nat} (h : Fits rows gs op kv ns so) (k : Kept op ns ms) : Fits rows gs op kv ms so := by
  unfold Kept at k
  by_cases e : op = EQU
  · rw [if_pos e] at k
    exact h.perm (by rw [e]; decide) k.1
  · rw [if_neg e] at k
    rw [k]
    exact h
/-- what an op turns into -/
def nearOp (op : List Nat) : List Nat := if op = ANDo then ORo else if op = ORo then ANDo else if op = MOSTo then LESSo else if op = LESSo then MOSTo else if op = EQo then DISo else if op = IMPo then EQo else op
theorem fit_near {rows : List WRow} {op : List Nat} {kv : NestedKey} {ls : List (List Nat)} {so : List Nat} (h : fitS rows op kv ls so) : fitS rows (nearOp op) kv ls so := by
  cases h with
  | call r hr => exact .call r hr
  | ite a => exact .ite so
  | tr => exact .tr
  | fa => exact .fa
  | whole i h => exact .whole i h
  | ratio p q => exact .ratio p q
  | shift i h => exact .shift i h
  | scale p q => exact .scale p q
  | sum _ h h2 => exact .sum _ h h2
  | neg => exact .neg
  | and _ h2 => exact .or _ h2
  | or _ h2 => exact .and _ h2
  | imp => exact .eq TRUTH
  | eq a => exact .dis a [a, a] (show 2 ≤ 2 by decide) (by simp)
  | dis a _ h h2 => exact .dis a _ h h2
  | most a h => exact .less a h
  | less a h => exact .most a h
theorem fit_step {rows : List WRow} {op : List Nat} {i : Int} {kv : NestedKey} {ls : List (List Nat)} {so : List Nat} (h : fitS rows op kv ls so) (ho : op = WHOLE ∨ op = SHIo) : ∃ i : Int, kv = .num i ∧ i.natAbs ≤ 10 ^ 17 ∧ fitS rows op (.num (if i > 0 then i - 1 else i + 1)) ls so := by
  cases h with
  | whole i h => exact ⟨i, rfl, h, .whole _ (by split <;> omega)⟩
  | shift i h => exact ⟨i, rfl, h, .shift _ (by split <;> omega)⟩
  | _ => rcases ho with e | e <;> exact absurd e (by decide)
/-- a value is short and plain -/
theorem fit_kv {rows : List WRow} {op : List Nat} {kv : NestedKey} {ls : List (List Nat)} {so : List Nat} (h : fitS rows op kv ls so) : kv.depth ≤ 6 := by
  cases h <;> simp [NestedKey.depth, NestedKey.depthAll]
/-- the table with one more row, if it is new -/
def putG (gs : List GRow) (g : GRow) : List GRow := if g.k ∈ gs.map GRow.k then gs else gs ++ [g]
theorem keys_b (gs : List GRow) : (gs.map GRow.b).map (·.1) = gs.map GRow.k := by rw [List.map_map]; rfl
theorem putG_b (gs : List GRow) (g : GRow) : (putG gs g).map GRow.b = putB (gs.map GRow.b) g.k (S g.so) := by
  unfold putG putB
  rw [keys_b]
  by_cases h : g.k ∈ gs.map GRow.k
  · rw [if_pos h, if_pos h]
  · rw [if_neg h, if_neg h, List.map_append]
    rfl
theorem putG_len (gs : List GRow) (g : GRow) : (putG gs g).length ≤ gs.length + 1 := by
  unfold putG
  by_cases q : g.k ∈ gs.map GRow.k
  · rw [if_pos q]; omega
  · rw [if_neg q, List.length_append]; exact Nat.le_refl _
end L

namespace L
open PySem PySem.Spec PyProof.Rows L2 Z M
open _root_.SX (S S_len S_inj)
/-! a key as data -/
mutual
def kD : NestedKey → PyData
  | .none => .none
  | .num i => .int i
  | .text x => .str x
  | .tup ks => .tuple (kDs ks)
def kDs : List NestedKey → List PyData
  | [] => []
  | k :: ks => kD k :: kDs ks
end
mutual
theorem nk_dp {K : PySem.W.Frag} {H : Hp} : ∀ (k : NestedKey) (v : V), ND.nk H k v → Dp K H v (kD k)
  | .none, v, q => by unfold ND.nk at q; subst q; unfold kD; exact .non
  | .num i, v, q => by unfold ND.nk at q; subst q; unfold kD; exact .int _
  | .text x, v, q => by unfold ND.nk at q; subst q; unfold kD; exact .str _
  | .tup ks, v, q => by
    unfold ND.nk at q
    obtain ⟨b, xs, rfl, e, q⟩ := q
    unfold kD
    exact .tup (.inl (.inl e)) (nks_dp ks xs q)
theorem nks_dp {K : PySem.W.Frag} {H : Hp} : ∀ (ks : List NestedKey) (xs : List V), ND.nks H ks xs → DpAll K H xs (kDs ks)
  | [], xs, q => by unfold ND.nks at q; subst q; unfold kDs; exact .nil
  | k :: ks, xs, q => by
    unfold ND.nks at q
    obtain ⟨v, vs, rfl, q1, q2⟩ := q
    unfold kDs
    exact .cons (nk_dp k v q1) (nks_dp ks vs q2)
end
mutual
theorem kD_dep : ∀ k : NestedKey, (kD k).depth ≤ k.depth
  | .none => by simp [kD, PyData.depth]
  | .num i => by simp [kD, PyData.depth]
  | .text x => by simp [kD, PyData.depth]
  | .tup ks => by
    have := kDs_dep ks
    simp only [kD, PyData.depth, NestedKey.depth]
    omega
theorem kDs_dep : ∀ ks : List NestedKey, PyData.depthAll (kDs ks) ≤ NestedKey.depthAll ks
  | [] => by simp [kDs, PyData.depthAll]
  | k :: ks => by
    have h1 := kD_dep k
    have h2 := kDs_dep ks
    simp only [kDs, PyData.depthAll, NestedKey.depthAll]
    omega
end

mutual
theorem kD_eqv : ∀ (k j : NestedKey), PyData.eqv (kD k) (kD j) = decide (k = j)
  | .none, .none => by simp [kD, PyData.eqv]
  | .none, .num _ => by simp [kD, PyData.eqv]
  | .none, .text _ => by simp [kD, PyData.eqv]
  | .none, .tup _ => by simp [kD, PyData.eqv]
  | .num _, .none => by simp [kD, PyData.eqv]
  | .num a, .num b => by
    simp only [kD, PyData.eqv, NestedKey.num.injEq]
    exact Bool.eq_iff_iff.mpr (by simp)
  | .num _, .text _ => by simp [kD, PyData.eqv]
  | .num _, .tup _ => by simp [kD, PyData.eqv]
  | .text _, .none => by simp [kD, PyData.eqv]
  | .text _, .num _ => by simp [kD, PyData.eqv]
  | .text a, .text b => by
    simp only [kD, PyData.eqv, NestedKey.text.injEq]
    exact Bool.eq_iff_iff.mpr (by simp)
  | .text _, .tup _ => by simp [kD, PyData.eqv]
  | .tup _, .none => by simp [kD, PyData.eqv]
  | .tup _, .num _ => by simp [kD, PyData.eqv]
  | .tup _, .text _ => by simp [kD, PyData.eqv]
  | .tup a, .tup b => by
    simp only [kD, PyData.eqv, NestedKey.tup.injEq]
    exact kDs_eqv a b
theorem kDs_eqv : ∀ (k j : List NestedKey), PyData.eqvAll (kDs k) (kDs j) = decide (k = j)
  | [], [] => by simp [kDs, PyData.eqvAll]
  | [], _ :: _ => by simp [kDs, PyData.eqvAll]
  | _ :: _, [] => by simp [kDs, PyData.eqvAll]
  | a :: as, b :: bs => by
    simp only [kDs, PyData.eqvAll, List.cons.injEq]
    rw [kD_eqv a b, kDs_eqv as bs]
    exact Bool.eq_iff_iff.mpr (by simp)
end
theorem kDs_map (ks : List NestedKey) : kDs ks = ks.map kD := by
  induction ks with
  | nil => rfl
  | cons k ks ih => unfold kDs; rw [ih]; rfl
theorem lay_nums : ∀ ns : List Int, PyData.canLayAll0 (kDs (ns.map NestedKey.num)) = true
  | [] => rfl
  | n :: ns => by
    rw [List.map_cons]
    unfold kDs PyData.canLayAll0
    rw [lay_nums ns]
    unfold kD PyData.canLay0
    rfl
theorem lay_lt {l : List Nat} (h : ∀ c ∈ l, c < 128) : PyData.canLay0 (.str (S l)) = true := by
  show (S l).cps.all (· < 0x110000) = true
  rw [Array.all_eq_true_iff_forall_mem]
  intro c hc
  have : c ∈ l := by simpa [S] using hc
  have := h c this
  exact decide_eq_true (by omega)
/-- a row whose op is plain and whose value can be laid -/
theorem fit_lay {rows : List WRow} (hn : ∀ r ∈ rows, ∀ c ∈ r.name, c < 128) {op : List Nat} {kv : NestedKey} {ls : List (List Nat)} {so : List Nat} (h : fitS rows op kv ls so) : (∀ c ∈ op, c < 128) ∧ (kD kv).canLay0 = true := by
  cases h with
  | call r hr => exact ⟨by decide, by unfold kD; exact lay_lt (hn r hr)⟩
  | dis a _ _ _ => exact ⟨by decide, by unfold kD PyData.canLay0; rfl⟩
  | most a _ => exact ⟨by decide, by unfold kD PyData.canLay0; rfl⟩
  | less a _ => exact ⟨by decide, by unfold kD PyData.canLay0; rfl⟩
  | ratio p q => exact ⟨by decide, by simp [kD, kDs, PyData.canLay0, PyData.canLayAll0]⟩
  | scale p q => exact ⟨by decide, by simp [kD, kDs, PyData.canLay0, PyData.canLayAll0]⟩
  | _ => exact ⟨by decide, by unfold kD PyData.canLay0; rfl⟩
theorem row_lay {op : List Nat} {kv : NestedKey} {ns : List Int} (h1 : ∀ c ∈ op, c < 128) (h2 : (kD kv).canLay0 = true) : (kD (nkey op kv ns)).canLay0 = true := by
  unfold nkey kD
  simp only [kDs, kD, PyData.canLay0, PyData.canLayAll0, h2, lay_nums, Bool.and_true]
  exact lay_lt h1
theorem shaped_row {k : NestedKey} (h : (kD k).canLay0 = true) (hd : k.depth ≤ 8) : SeqAt.shaped (kD k) = true := by
  have := kD_dep k
  unfold SeqAt.shaped
  rw [h, decide_eq_true (show (kD k).depth ≤ 64 by omega)]
  rfl
theorem shaped_rows {ks : List NestedKey} (h : ∀ k ∈ ks, (kD k).canLay0 = true ∧ k.depth ≤ 8) : SeqAt.shaped (.list (ks.map kD)) = true := by
  have h1 : ∀ l : List NestedKey, (∀ k ∈ l, (kD k).canLay0 = true ∧ k.depth ≤ 8) → PyData.canLayAll0 (l.map kD) = true ∧ PyData.depthAll (l.map kD) ≤ 8 := by
    intro l
    induction l with
    | nil => intro _; exact ⟨rfl, by simp [PyData.depthAll]⟩
    | cons k l ih =>
      intro h
      obtain ⟨i1, i2⟩ := ih fun j hj => h j (List.mem_cons_of_mem _ hj)
      obtain ⟨q1, q2⟩ := h k List.mem_cons_self
      have := kD_dep k
      rw [List.map_cons]
      refine ⟨by rw [PyData.canLayAll0, q1, i1]; rfl, ?_⟩
      unfold PyData.depthAll
      omega
  obtain ⟨q1, q2⟩ := h1 ks h
  unfold SeqAt.shaped
  rw [show (PyData.list (ks.map kD)).canLay0 = PyData.canLayAll0 (ks.map kD) by rw [PyData.canLay0], q1, decide_eq_true (show (PyData.list (ks.map kD)).depth ≤ 64 by rw [PyData.depth]; omega)]
  rfl
theorem any_row (ks : List NestedKey) (k : NestedKey) : ((ks.map kD).any fun z => PyData.eqv z (kD k)) = decide (k ∈ ks) := by
  induction ks with
  | nil => rfl
  | cons j ks ih =>
    rw [List.map_cons, List.any_cons, ih, kD_eqv]
    by_cases e : j = k
    · rw [decide_eq_true e, decide_eq_true (show k ∈ j :: ks by rw [e]; exact List.mem_cons_self)]
      rfl
    · rw [decide_eq_false e, Bool.false_or]
      by_cases m : k ∈ ks
      · rw [decide_eq_true m, decide_eq_true (List.mem_cons_of_mem _ m)]
      · rw [decide_eq_false m, decide_eq_false (fun z => (List.mem_cons.mp z).elim (fun q => e q.symm) m)]
mutual
def gdL : PyData → Bool
  | .none => true
  | .int _ => true
  | .str _ => true
  | .tuple xs => decide (xs.length ≤ 1000) && gdLs xs
  | .list _ => false
  | .bool _ => false
  | .dict _ => false
def gdLs : List PyData → Bool
  | [] => true
  | x :: xs => gdL x && gdLs xs
end
theorem gdLs_mem : ∀ {xs : List PyData} {x : PyData}, gdLs xs = true → x ∈ xs → gdL x = true
  | y :: ys, x, h, hx => by
    unfold gdLs at h
    rw [Bool.and_eq_true] at h
    rcases List.mem_cons.mp hx with e | m
    · rw [e]; exact h.1
    · exact gdLs_mem h.2 m
theorem gdLs_of : ∀ {xs : List PyData}, (∀ x ∈ xs, gdL x = true) → gdLs xs = true
  | [], _ => rfl
  | y :: ys, h => by
    unfold gdLs
    rw [h y List.mem_cons_self, gdLs_of fun x hx => h x (List.mem_cons_of_mem _ hx)]
    rfl
theorem depL_mem : ∀ {xs : List PyData} {x : PyData}, x ∈ xs → x.depth ≤ PyData.depthAll xs
  | y :: ys, x, h => by
    unfold PyData.depthAll
    rcases List.mem_cons.mp h with e | m
    · rw [e]; exact Nat.le_max_left _ _
    · exact Nat.le_trans (depL_mem m) (Nat.le_max_right _ _)
theorem gd_nums : ∀ ns : List Int, gdLs (kDs (ns.map NestedKey.num)) = true
  | [] => rfl
  | n :: ns => by
    rw [List.map_cons]
    unfold kDs gdLs
    rw [gd_nums ns]
    unfold kD gdL
    rfl
theorem fit_gd {rows : List WRow} {op : List Nat} {kv : NestedKey} {ls : List (List Nat)} {so : List Nat} (h : fitS rows op kv ls so) : gdL (kD kv) = true := by
  cases h with
  | ratio p q => simp [kD, kDs, gdL, gdLs]
  | scale p q => simp [kD, kDs, gdL, gdLs]
  | _ => simp [kD, gdL]
theorem gd_row {op : List Nat} {kv : NestedKey} {ns : List Int} (h : gdL (kD kv) = true) (hn : ns.length ≤ 50) : gdL (kD (nkey op kv ns)) = true := by
  have h4 : (kDs (ns.map NestedKey.num)).length = ns.length := by rw [kDs_map, List.length_map, List.length_map]
  unfold nkey
  simp only [kD, kDs, gdL, gdLs, h, gd_nums, h4, Bool.and_true, List.length_cons, List.length_nil]
  simp
  omega
end L

namespace MT
open PySem PySem.Spec PyProof.Rows L2 MW
open SX (S S_len S_cat S_inj)
section
variable {H : Hp} {Q : VK}
def rMulS : R2 := fun x y H Q => ∃ (i : Str) (n : Int), x = .str i ∧ y = .int n ∧ i.length ≤ 2000 ∧ -1 ≤ n ∧ n ≤ 2000 ∧ Q (.str (Txt.mul i n)) H
theorem op_mulS {X : Cx} : OpR X (binaryOp .Mult) rMulS := by
  intro pins s σ H x y v u Q I rx ry h
  obtain ⟨i, n, rfl, rfl, h1, h2, h3, q⟩ := h
  obtain ⟨t, rfl⟩ := rx
  obtain ⟨t', rfl⟩ := ry
  exact SB.mul (mulOk_of 2000 2000 h1 h3 (by omega) (by decide) (by decide)) fun t' k => ⟨.str (Txt.mul i n), H, I.tok _, ⟨_, rfl⟩, q⟩
theorem fold_app : ∀ (xs : List (Array Nat)) (a : Array Nat), (xs.foldl (· ++ ·) a).toList = a.toList ++ (xs.map Array.toList).flatten
  | [], a => by simp
  | x :: xs, a => by
    rw [List.foldl_cons, fold_app xs, Array.toList_append, List.map_cons, List.flatten_cons, List.append_assoc]
theorem mul1 {n : Int} {c : Nat} (h : 0 ≤ n) : Txt.mul (S [c]) n = S (List.replicate n.toNat c) := by
  unfold Txt.mul
  by_cases h0 : n ≤ 0
  · obtain rfl : n = 0 := by omega
    rfl
  · rw [if_neg (by omega)]
    split
    · rename_i h2
      rcases Bool.or_eq_true_iff.mp h2 with e | e
      · obtain rfl : n = 1 := eq_of_beq e
        rfl
      · have e : (S [c]).length = 0 := eq_of_beq e
        rw [S_len] at e
        cases e
    · refine congrArg Str.mk ?_
      apply Array.ext'
      rw [fold_app]
      simp [S]
theorem w_mul1 {n : Int} {c : Nat} (h : 0 ≤ n) (hn : n ≤ 2000) (q : Q (.str (S (List.replicate n.toNat c))) H) : rMulS (.str (S [c])) (.int n) H Q := ⟨_, _, rfl, rfl, by rw [S_len]; exact (by decide : 1 ≤ 2000), by omega, hn, by rw [mul1 h]; exact q⟩
end
end MT

namespace L
open PySem PySem.Spec PyProof.Rows L2 Z M
open _root_.SX (S S_len S_inj)
/-! drawn words -/
def Wd0 (p : Nat) (l : List Nat) : Prop := ∃ c n m, 97 ≤ c ∧ c ≤ 122 ∧ n + m ≤ 4 ∧ l = List.replicate n c ++ [65 + p] ++ List.replicate m c
theorem Wd0.mem {p : Nat} {l : List Nat} (h : Wd0 p l) {d : Nat} (hd : d ∈ l) : d = 65 + p ∨ (97 ≤ d ∧ d ≤ 122) := by
  obtain ⟨c, n, m, h1, h2, h3, rfl⟩ := h
  rcases List.mem_append.mp hd with hd | hd
  · rcases List.mem_append.mp hd with hd | hd
    · rw [(List.mem_replicate.mp hd).2]; exact .inr ⟨h1, h2⟩
    · exact .inl (List.mem_singleton.mp hd)
  · rw [(List.mem_replicate.mp hd).2]; exact .inr ⟨h1, h2⟩
theorem Wd0.up {p : Nat} {l : List Nat} (h : Wd0 p l) : 65 + p ∈ l := by
  obtain ⟨c, n, m, h1, h2, h3, rfl⟩ := h
  simp
theorem Wd0.len {p : Nat} {l : List Nat} (h : Wd0 p l) : l.length ≤ 5 := by
  obtain ⟨c, n, m, h1, h2, h3, rfl⟩ := h
  simp
  omega
theorem Wd0.inj {p q : Nat} {l : List Nat} (hp : p < 26) (hq : q < 26) (h : Wd0 p l) (g : Wd0 q l) : p = q := by
  rcases g.mem h.up with e | e
  · omega
  · omega
theorem low_reserved : ∀ r ∈ w_RESERVED, ∀ c ∈ r, 97 ≤ c := by decide
theorem low_base : ∀ r ∈ w_BASE_SORTS, ∀ c ∈ r, 97 ≤ c := by decide
theorem Wd0.not_low {p : Nat} {l : List Nat} (hp : p < 26) (h : Wd0 p l) (hl : ∀ c ∈ l, 97 ≤ c) : False := by
  have := hl _ h.up
  omega
theorem Wd0.name {p : Nat} {l : List Nat} (hp : p < 26) (h : Wd0 p l) : nameB l = true := by
  unfold nameB
  have h1 : decide (l ∈ w_RESERVED) = false := decide_eq_false fun z => h.not_low hp (low_reserved l z)
  have h2 : l.all (· < 128) = true := List.all_eq_true.mpr fun c hc => decide_eq_true (by rcases h.mem hc with e | e <;> omega)
  have lt_of : ∀ c ∈ l, NM.lt c = true := fun c hc => by
    unfold NM.lt
    rcases h.mem hc with e | e
    · rw [decide_eq_true (show 65 ≤ c ∧ c ≤ 90 by omega), Bool.or_true]
    · rw [decide_eq_true e]; rfl
  have h3 : NM.fst1 l = true := by
    cases e : l with
    | nil => have := h.up; rw [e] at this; cases this
    | cons c r =>
      show NM.lt c = true
      exact lt_of c (by rw [e]; exact List.mem_cons_self)
  have h4 : l.all NM.nc = true := List.all_eq_true.mpr fun c hc => by
    unfold NM.nc
    rw [lt_of c hc]
    rfl
  rw [h1, h2, h3, h4]
  rfl
theorem lay_of {l : List Nat} (h : ∀ c ∈ l, c < 128) : PyData.canLay0 (.str (S l)) = true := by
  show (S l).cps.all (· < 0x110000) = true
  rw [Array.all_eq_true_iff_forall_mem]
  intro c hc
  have : c ∈ l := by simpa [S] using hc
  have := h c this
  exact decide_eq_true (by omega)
theorem Wd0.lay {p : Nat} {l : List Nat} (hp : p < 26) (h : Wd0 p l) : PyData.canLay0 (.str (S l)) = true := lay_of fun c hc => by rcases h.mem hc with e | e <;> omega
theorem great_at {p : Nat} (hp : p < 26) : atI lit_2 ((p : Int) % 26) = some (65 + p) := by
  have : ∀ p : Nat, p < 26 → atI lit_2 ((p : Int) % 26) = some (65 + p) := by decide +kernel
  exact this p hp
section
variable {P : Program} {w : World} {K : PySem.W.Frag} {mg : Str → Option Value} {base : Heap}
def spWord : Sp := fun vs H Q _ => ∃ (q : Addr) (p : Nat), vs = [.ref q, .int (p : Int)] ∧ PoolAt H q ∧ p < 26 ∧ ∀ H' l, PX q H H' → Wd0 p l → Q (.str (S l)) H'
theorem ok_word (T : Txt K mg) : FnOk P w K mg base CX0 2 T.f_word T.fd_word ["_law_pool_here", "_law_place"] spWord := by
  have G_take := ok_take (P := P) (w := w) (base := base) T
  refine T.F_word.ok sc_word (fun vs H Q E h => ?_) (fun cdv A outer s H vs Q E hr h => ?_)
  · obtain ⟨q, p, rfl, _⟩ := h
    rfl
  · obtain ⟨q, p, rfl, hp, hp26, h⟩ := h
    refine ⟨_, (pss_cons (ps_set (i := 2) sc_word.nd rfl (.inl rfl) (MT.pe_strS (l := lit_1) (by decide +kernel)))
 (pss_cons (ps_set (i := 3) sc_word.nd rfl (.inl rfl) (MT.pe_strS (l := lit_2) (by decide +kernel)))
 (pss_cons (ps_set (i := 4) sc_word.nd rfl (.inl rfl) (pe_ix ix_str (pv 2) (pe_call G_take (hr.mono (by first | decide | omega)) (by rfl) T.g_take T.F_take.kp T.b_take .nil pass0 (pa_cons (pv 0) (pa_cons pe_int pa_nil))) (fun _ _ => rfl)))
 (pss_cons (ps_set (i := 5) sc_word.nd rfl (.inl rfl) (pe_call G_take (hr.mono (by first | decide | omega)) (by rfl) T.g_take T.F_take.kp T.b_take .nil pass0 (pa_cons (pv 0) (pa_cons pe_int pa_nil))))
 (pss_cons (ps_set (i := 6) sc_word.nd rfl (.inl rfl) (pe_call G_take (hr.mono (by first | decide | omega)) (by rfl) T.g_take T.F_take.kp T.b_take .nil pass0 (pa_cons (pv 0) (pa_cons (pe_op op_add (pv 5) pe_int) pa_nil))))
 (pss_one (ps_ret (pe_op MT.op_addS (pe_op MT.op_addS (pe_op MT.op_mulS (pv 4) (pv 6)) (pe_ix ix_str (pv 3) (pe_op op_mod (pe_callTy call_int1 (by rfl) T.m_int (by decide +kernel) (pa_cons (pv 1) pa_nil)) pe_int) (fun _ _ => rfl))) (pe_op MT.op_mulS (pv 4) (pe_op op_sub (pv 5) (pv 6))))))))))), ?_⟩
    refine Z.w_start (σ' := [some (.ref q), some (.int (p : Int)), none, none, none, none, none]) rfl ?_
    walk_at "w"
    refine use_takeP hp (by decide) (by decide) fun r1 H1 px1 a1 b1 => ?_
    obtain ⟨c, hc, hcm⟩ := MT.pickN (l := lit_1) a1 (by rw [show ((lit_1.length : Nat) : Int) = 26 from rfl]; exact b1)
    have hc2 : 97 ≤ c ∧ c ≤ 122 := by
      have : ∀ c ∈ lit_1, 97 ≤ c ∧ c ≤ 122 := by decide
      exact this c hcm
    have l0 : lit_1.length ≤ 100000 := by decide
    have l1 : lit_2.length ≤ 100000 := by decide
    refine MT.w_ixS l0 hc ?_
    walk_at "w"
    refine use_takeP px1.2 (by decide) (by decide) fun r2 H2 px2 a2 b2 => ?_
    walk_at "w"
    refine use_takeP px2.2 (by omega) (by omega) fun r3 H3 px3 a3 b3 => ?_
    walk_at "w"
    refine MT.w_mul1 a3 (by omega) ?_
    walk_at "w"
    refine MT.w_ixS l1 (great_at hp26) ?_
    have t3 : r3.toNat ≤ 4 := by omega
    refine MT.w_addS (by rw [List.length_replicate]; show r3.toNat + 1 ≤ 100000; omega) ?_
    walk_at "w"
    refine MT.w_mul1 (by omega) (by omega) ?_
    have t4 : r3.toNat + (r2 - r3).toNat ≤ 4 := by omega
    refine MT.w_addS (by rw [List.length_append, List.length_replicate, List.length_replicate]; show r3.toNat + 1 + (r2 - r3).toNat ≤ 100000; omega) ?_
    exact h H3 _ ((px1.trans px2).trans px3) ⟨c, r3.toNat, (r2 - r3).toNat, hc2.1, hc2.2, t4, rfl⟩
end
end L

namespace L
open PySem PySem.Spec PyProof.Rows L2 Z M
open _root_.SX (S S_len S_inj)
/-! the drawn world -/
def baseSig (tl : List Nat) : List (List (List Nat) × List Nat) := [([], tl), ([], tl), ([], tl), ([tl], tl), ([tl], TRUTH), ([], WHOLE), ([], WHOLE), ([], WHOLE), ([WHOLE], WHOLE), ([], RATIO), ([], RATIO), ([RATIO], tl), ([], TRUTH), ([], TRUTH), ([tl, WHOLE], RATIO)]
def baseRows (tl : List Nat) (names : List (List Nat)) : List WRow := (names.zip (baseSig tl)).map fun p => ⟨p.1, p.2.1, p.2.2⟩
def RowAt (H : Hp) (a : Addr) (r : WRow) : Prop := ∃ b, H a = some (.tup [vS r.name, .ref b, vS r.res]) ∧ H b = some (.tup (r.args.map vS))
structure WdAt (H : Hp) (wa rl : Addr) (ra : List Addr) (tl : List Nat) (rows : List WRow) : Prop where
  w : H wa = some (.lst [vS tl, .ref rl])
  r : H rl = some (.lst (ra.map V.ref))
  len : ra.length = rows.length
  at_ : ∀ (i : Nat) (a : Addr) (r : WRow), ra[i]? = some a → rows[i]? = some r → RowAt H a r
theorem WdAt.ch {S : List Addr} {H H' : Hp} {wa rl : Addr} {ra : List Addr} {tl : List Nat} {rows : List WRow} (h : WdAt H wa rl ra tl rows) (c : Ch S H H') (m : NoTup S H) (n : ∀ b ∈ S, b ≠ wa ∧ b ≠ rl) : WdAt H' wa rl ra tl rows :=
  ⟨c _ _ (fun z => (n _ z).1 rfl) h.w, c _ _ (fun z => (n _ z).2 rfl) h.r, h.len, fun i a r e1 e2 => by
    obtain ⟨b, g1, g2⟩ := h.at_ i a r e1 e2
    exact ⟨b, c.tup m g1, c.tup m g2⟩⟩
theorem WdAt.same {H H' : Hp} {wa rl : Addr} {ra : List Addr} {tl : List Nat} {rows : List WRow} (h : WdAt H wa rl ra tl rows) (c : Same H H') : WdAt H' wa rl ra tl rows :=
  h.ch (S := []) (Ch.of c) (fun b hb => by cases hb) (fun b hb => by cases hb)
def TupsAt (H : Hp) : List Addr → List (List (List Nat)) → Prop
  | [], [] => True
  | a :: as, s :: ss => H a = some (.tup (s.map vS)) ∧ TupsAt H as ss
  | _, _ => False
theorem TupsAt.get {H : Hp} : ∀ {as : List Addr} {ss : List (List (List Nat))}, TupsAt H as ss → ∀ (i : Nat) (s : List (List Nat)), ss[i]? = some s → ∃ a, as[i]? = some a ∧ H a = some (.tup (s.map vS))
  | [], [], _, i, s, h => by simp at h
  | a :: as, t :: ss, h, 0, s, e => by
    simp only [List.getElem?_cons_zero, Option.some.injEq] at e
    subst e
    exact ⟨a, rfl, h.1⟩
  | a :: as, t :: ss, h, i + 1, s, e => by
    rw [List.getElem?_cons_succ] at e
    exact TupsAt.get h.2 i s e
theorem TupsAt.same {H H' : Hp} (s : Same H H') : ∀ {as : List Addr} {ss : List (List (List Nat))}, TupsAt H as ss → TupsAt H' as ss
  | [], [], _ => trivial
  | _ :: _, _ :: _, h => ⟨s _ _ h.1, TupsAt.same s h.2⟩
theorem PX.mutF {q D : Addr} {H H1 : Hp} {o : HO} (a : PX q H H1) (hq : PoolAt H q) (h : H D = none) : PX q H (upd H1 D o) := by
  refine ⟨a.1.own h, ?_, fun b x n e => by rw [upd_ne (ne_of_none e h)]; exact a.3 b x n e⟩
  obtain ⟨o', h2, hp⟩ := a.2
  refine ⟨o', ?_, hp⟩
  rw [upd_ne]
  · exact h2
  · rintro rfl
    obtain ⟨o3, h3, _⟩ := hq
    rw [h3] at h
    cases h
theorem ne_pool {q a : Addr} {H : Hp} {xs : List V} (h : PoolAt H q) (e : H a = some (.lst xs)) (n : ∀ c k b s, xs ≠ [.int c, .int k, .bl b, .int s]) : a ≠ q := fun z => by
  obtain ⟨o3, h3, c, k, b, s, rfl⟩ := h
  rw [z, h3] at e
  have e := Option.some.inj e
  injection e with e
  exact n c k b s e.symm
section
variable {P : Program} {w : World} {K : PySem.W.Frag} {mg : Str → Option Value} {base : Heap}
theorem w_catL {a b : Addr} {xs ys : List V} {H : Hp} {Q : VK} (ha : H a = some (.lst xs)) (hb : H b = some (.lst ys)) (hz : xs.length + ys.length ≤ 1000) (q : ∀ c, H c = none → Q (.ref c) (upd H c (.lst (xs ++ ys)))) : rCat (.ref a) (.ref b) H Q := ⟨a, b, xs, ys, rfl, rfl, ha, hb, sz4 hz, q⟩
theorem w_catS {a b : Addr} {xs ys : List V} {H : Hp} {Q : VK} (ha : H a = some (.lst xs)) (hb : H b = some (.lst ys)) (hz : xs.length + ys.length ≤ 1000) (q : ∀ c H', Same H H' → H c = none → H' c = some (.lst (xs ++ ys)) → Q (.ref c) H') : rCat (.ref a) (.ref b) H Q := w_catL ha hb hz fun c hc => q c _ (same_of (Same.refl _) hc) hc upd_same
def spWorld : Sp := fun vs H Q _ => ∃ q : Addr, vs = [.ref q] ∧ PoolAt H q ∧ ∀ H' wa rl ra tl names, PX q H H' → Wd0 0 tl → names.length = 15 → (∀ (k : Nat) (n : List Nat), names[k]? = some n → Wd0 (k + 1) n) → WdAt H' wa rl ra tl (baseRows tl names) → H wa = none → H rl = none → Q (.ref wa) H'
theorem ok_world (T : Txt K mg) : FnOk P w K mg base CX0 3 T.f_world T.fd_world ["_law_pool_here"] spWorld := by
  have G_word := ok_word (P := P) (w := w) (base := base) T
  refine T.F_world.ok sc_world (fun vs H Q E h => ?_) (fun cdv A outer s H vs Q E hr h => ?_)
  · obtain ⟨q, rfl, _⟩ := h
    rfl
  · obtain ⟨q, rfl, hp, h⟩ := h
    refine ⟨_, (pss_cons (ps_set (i := 1) sc_world.nd rfl (.inl rfl) (pe_call G_word (hr.mono (by first | decide | omega)) (by rfl) T.g_word T.F_word.kp T.b_word .nil pass0 (pa_cons (pv 0) (pa_cons pe_int pa_nil))))
 (pss_cons (ps_set (i := 2) sc_world.nd rfl (.inr rfl) (pe_lst (pa_cons (pe_tup pa_nil) (pa_cons (pe_tup pa_nil) (pa_cons (pe_tup pa_nil) (pa_cons (pe_tup (pa_cons (pv 1) pa_nil)) (pa_cons (pe_tup (pa_cons (pv 1) pa_nil)) (pa_cons (pe_tup pa_nil) (pa_cons (pe_tup pa_nil) (pa_cons (pe_tup pa_nil) (pa_cons (pe_tup (pa_cons (MT.pe_strS (l := [119, 104, 111, 108, 101]) (by decide +kernel)) pa_nil)) (pa_cons (pe_tup pa_nil) (pa_cons (pe_tup pa_nil) (pa_cons (pe_tup (pa_cons (MT.pe_strS (l := [114, 97, 116, 105, 111]) (by decide +kernel)) pa_nil)) (pa_cons (pe_tup pa_nil) (pa_cons (pe_tup pa_nil) (pa_cons (pe_tup (pa_cons (pv 1) (pa_cons (MT.pe_strS (l := [119, 104, 111, 108, 101]) (by decide +kernel)) pa_nil))) pa_nil)))))))))))))))))
 (pss_cons (ps_set (i := 3) sc_world.nd rfl (.inr rfl) (pe_lst (pa_cons (pv 1) (pa_cons (pv 1) (pa_cons (pv 1) (pa_cons (pv 1) (pa_cons (MT.pe_strS (l := [116, 114, 117, 116, 104]) (by decide +kernel)) (pa_cons (MT.pe_strS (l := [119, 104, 111, 108, 101]) (by decide +kernel)) (pa_cons (MT.pe_strS (l := [119, 104, 111, 108, 101]) (by decide +kernel)) (pa_cons (MT.pe_strS (l := [119, 104, 111, 108, 101]) (by decide +kernel)) (pa_cons (MT.pe_strS (l := [119, 104, 111, 108, 101]) (by decide +kernel)) (pa_cons (MT.pe_strS (l := [114, 97, 116, 105, 111]) (by decide +kernel)) (pa_cons (MT.pe_strS (l := [114, 97, 116, 105, 111]) (by decide +kernel)) (pa_cons (pv 1) pa_nil))))))))))))))
 (pss_cons (ps_set (i := 3) sc_world.nd rfl (.inr rfl) (pe_op op_cat (pv 3) (pe_lst (pa_cons (MT.pe_strS (l := [116, 114, 117, 116, 104]) (by decide +kernel)) (pa_cons (MT.pe_strS (l := [116, 114, 117, 116, 104]) (by decide +kernel)) (pa_cons (MT.pe_strS (l := [114, 97, 116, 105, 111]) (by decide +kernel)) pa_nil))))))
 (pss_cons (ps_set (i := 4) sc_world.nd rfl (.inr rfl) (pe_lc (own := [("_law_k", 5)]) (g := gName 5) (tt := tYes) (by rfl) sc_world.nd (pi_range1 (by rfl) T.m_range (pa_cons pe_int pa_nil)) (blkOk_by (own := [("_law_k", 5)]) (N := N_world) (sc := defScope s_world) (by decide +kernel)) (fun _ _ _ _ _ => pg_name (i := 5) sc_world.nd rfl (Or.inl rfl)) (fun _ _ _ _ _ => pts_nil) (fun _ _ _ _ _ => (pe_call G_word (hr.mono (by first | decide | omega)) (by rfl) T.g_word T.F_word.kp T.b_word .nil pass0 (pa_cons (pv 0) (pa_cons (pe_op op_add (pv 5) pe_int) pa_nil))))))
 (pss_one (ps_ret (pe_lst (pa_cons (pv 1) (pa_cons (pe_lc (own := [("_law_k", 5)]) (g := gName 5) (tt := tYes) (by rfl) sc_world.nd (pi_range1 (by rfl) T.m_range (pa_cons pe_int pa_nil)) (blkOk_by (own := [("_law_k", 5)]) (N := N_world) (sc := defScope s_world) (by decide +kernel)) (fun _ _ _ _ _ => pg_name (i := 5) sc_world.nd rfl (Or.inl rfl)) (fun _ _ _ _ _ => pts_nil) (fun _ _ _ _ _ => (pe_tup (pa_cons (pe_ix (show IxR _ (rIxL K) from ix_list) (pv 4) (pv 5) (fun _ _ => rfl)) (pa_cons (pe_ix (show IxR _ (rIxL K) from ix_list) (pv 2) (pv 5) (fun _ _ => rfl)) (pa_cons (pe_ix (show IxR _ (rIxL K) from ix_list) (pv 3) (pv 5) (fun _ _ => rfl)) pa_nil)))))) pa_nil)))))))))), ?_⟩
    refine Z.w_start (σ' := [some (.ref q), none, none, none, none, none]) rfl ?_
    walk_at "w"
    refine ⟨q, 0, rfl, hp, by decide, fun H1 tl px1 wt => ?_⟩
    walk_at "w"
    rename_i t0 h0 t1 h1 t2 h2 t3 h3 t4 h4 t5 h5 t6 h6 t7 h7 t8 h8 t9 h9 t10 h10 t11 h11 t12 h12 t13 h13 t14 h14 R hR S1 hS1 S2 hS2
    refine w_catS (by walk_at "hp") (by walk_at "hp") (by show 12 + 3 ≤ 1000; decide) fun rs H2 sm2 _ ers => ?_
    have s12 : Same H1 H2 := Same.trans (by walk_at "same") sm2
    have eR : H2 R = some (.lst ([t0, t1, t2, t3, t4, t5, t6, t7, t8, t9, t10, t11, t12, t13, t14].map V.ref)) := sm2 _ _ (by walk_at "hp")
    have eT : TupsAt H2 [t0, t1, t2, t3, t4, t5, t6, t7, t8, t9, t10, t11, t12, t13, t14] ((baseSig tl).map (·.1)) := ⟨sm2 _ _ (by walk_at "hp"), sm2 _ _ (by walk_at "hp"), sm2 _ _ (by walk_at "hp"), sm2 _ _ (by walk_at "hp"), sm2 _ _ (by walk_at "hp"), sm2 _ _ (by walk_at "hp"), sm2 _ _ (by walk_at "hp"), sm2 _ _ (by walk_at "hp"), sm2 _ _ (by walk_at "hp"), sm2 _ _ (by walk_at "hp"), sm2 _ _ (by walk_at "hp"), sm2 _ _ (by walk_at "hp"), sm2 _ _ (by walk_at "hp"), sm2 _ _ (by walk_at "hp"), sm2 _ _ (by walk_at "hp"), trivial⟩
    generalize htl : [t0, t1, t2, t3, t4, t5, t6, t7, t8, t9, t10, t11, t12, t13, t14] = ts at eR eT
    have ers' : H2 rs = some (.lst ((baseSig tl).map fun p => vS p.2)) := ers
    have hp2 : PoolAt H2 q := px1.2.same s12
    have px2 : PX q H H2 := px1.same s12
    walk_at "w"
    refine ⟨by omega, by omega, fun D hD => ?_⟩
    have hD0 : H D = none := fresh_px px2 hp hD
    refine lc_range (lo := 0) (n := _) (fun i H' => PX q H2 H' ∧ ∃ names : List (List Nat), H' D = some (.lst (names.map vS)) ∧ names.length = i ∧ ∀ (k : Nat) (n : List Nat), names[k]? = some n → Wd0 (k + 1) n) ⟨(PX.refl hp2).new hD, [], upd_same, rfl, fun k n e => by simp at e⟩ ?_ ?_
    · rintro i H' hi ⟨px, names, eD, hl, hw⟩
      have hi15 : i < 15 := hi
      have e0 : (0 : Int) + (i : Int) = (i : Int) := Int.zero_add _
      rw [e0]
      refine Z.w_gname (σ' := [some (.ref q), some (vS tl), some (.ref R), some (.ref rs), none, some (.int (i : Int))]) rfl ⟨rfl, ?_⟩
      walk_at "w"
      refine ⟨q, i + 1, rfl, px.2, by omega, fun H3 n px3 wn => ?_⟩
      have nDq : D ≠ q := fun z => by
        obtain ⟨o3, h3, _⟩ := hp2
        rw [z, h3] at hD
        cases hD
      refine ⟨_, px3.3 _ _ nDq eD, ?_, (px.trans px3).mutF hp2 hD, names ++ [n], ?_, ?_, fun k m e => ?_⟩
      · rw [List.length_map, hl]
        exact Nat.lt_trans hi15 (by decide)
      · rw [upd_same, List.map_append]
        rfl
      · rw [List.length_append, hl]
        rfl
      · by_cases hk : k < names.length
        · rw [List.getElem?_append_left hk] at e
          exact hw k m e
        · have hlt := (List.getElem?_eq_some_iff.mp e).1
          rw [List.length_append, List.length_singleton] at hlt
          obtain rfl : k = names.length := by omega
          rw [List.getElem?_append_right (Nat.le_refl _), Nat.sub_self] at e
          obtain rfl := Option.some.inj e
          rw [hl]
          exact wn
    · rintro H' ⟨px, names, eD, hl, hw⟩
      have hl15 : names.length = 15 := hl
      have hp' := px.2
      have rest : ∀ b x, b ≠ q → H2 b = some x → H' b = some x := px.3
      have nRq : R ≠ q := ne_pool hp2 eR fun c k b s z => by cases ts <;> simp at z
      have nsq : rs ≠ q := ne_pool hp2 ers' fun c k b s z => by simp [baseSig] at z
      have eR' := rest _ _ nRq eR
      have ers2 := rest _ _ nsq ers'
      have eT' : ∀ (i : Nat) (s : List (List Nat)), ((baseSig tl).map (·.1))[i]? = some s → ∃ a, ts[i]? = some a ∧ H' a = some (.tup (s.map vS)) := fun i s e => by
        obtain ⟨a, a1, a2⟩ := eT.get i s e
        exact ⟨a, a1, rest _ _ (tup_pool hp2 a2) a2⟩
      walk_at "w"
      refine ⟨by omega, by omega, fun D2 hD2 => ?_⟩
      refine lc_range (lo := 0) (n := _) (fun i H3 => Same H' H3 ∧ ∃ ra : List Addr, H3 D2 = some (.lst (ra.map V.ref)) ∧ ra.length = i ∧ ∀ (k : Nat) (a : Addr) (r : WRow), ra[k]? = some a → (baseRows tl names)[k]? = some r → RowAt H3 a r) ⟨same_of (Same.refl _) hD2, [], upd_same, rfl, fun k a r e => by simp at e⟩ ?_ ?_
      · rintro i H3 hi ⟨s3, ra, eD2, hra, hrow⟩
        have hi15 : i < 15 := hi
        have e0 : (0 : Int) + (i : Int) = (i : Int) := Int.zero_add _
        rw [e0]
        obtain ⟨n, hn⟩ : ∃ n, names[i]? = some n := ⟨names[i], List.getElem?_eq_getElem (by omega)⟩
        obtain ⟨sg, hsg⟩ : ∃ sg, (baseSig tl)[i]? = some sg := ⟨(baseSig tl)[i]'hi15, List.getElem?_eq_getElem hi15⟩
        obtain ⟨ti, hti, eti⟩ := eT' i sg.1 (by rw [List.getElem?_map, hsg]; rfl)
        have f1 := s3 _ _ eD
        have f2 := s3 _ _ eR'
        have f3 := s3 _ _ ers2
        have g1 : atI (names.map vS) (i : Int) = some (vS n) := atI_nat (by rw [List.getElem?_map, hn]; rfl)
        have g2 : atI (ts.map V.ref) (i : Int) = some (.ref ti) := atI_nat (by rw [List.getElem?_map, hti]; rfl)
        have g3 : atI ((baseSig tl).map fun p => vS p.2) (i : Int) = some (vS sg.2) := atI_nat (by rw [List.getElem?_map, hsg]; rfl)
        refine Z.w_gname (σ' := [some (.ref q), some (vS tl), some (.ref R), some (.ref rs), some (.ref D), some (.int (i : Int))]) rfl ⟨rfl, ?_⟩
        walk_at "w"
        rename_i p hpn
        have n1 : p ≠ D2 := fun z => by rw [z, eD2] at hpn; cases hpn
        refine ⟨_, upd_of hpn eD2, ?_, same_mut (same_of s3 hpn) hD2, ra ++ [p], ?_, ?_, fun k a r e1 e2 => ?_⟩
        · rw [List.length_map, hra]
          exact Nat.lt_trans hi15 (by decide)
        · rw [upd_same, List.map_append]
          rfl
        · rw [List.length_append, hra]
          rfl
        · have keep : ∀ b ys, H3 b = some (.tup ys) → ∀ u, upd (upd H3 p (.tup [vS n, .ref ti, vS sg.2])) D2 u b = some (.tup ys) := fun b ys e u => by
            rw [upd_ne (fun z => by rw [z, eD2] at e; cases e)]
            exact upd_of hpn e
          by_cases hk : k < ra.length
          · rw [List.getElem?_append_left hk] at e1
            obtain ⟨b, q1, q2⟩ := hrow k a r e1 e2
            exact ⟨b, keep _ _ q1 _, keep _ _ q2 _⟩
          · have hlt := (List.getElem?_eq_some_iff.mp e1).1
            rw [List.length_append, List.length_singleton] at hlt
            obtain rfl : k = ra.length := by omega
            rw [List.getElem?_append_right (Nat.le_refl _), Nat.sub_self] at e1
            obtain rfl := Option.some.inj e1
            rw [hra] at e2
            have er : (baseRows tl names)[i]? = some ⟨n, sg.1, sg.2⟩ := by
              unfold baseRows
              rw [List.getElem?_map, (List.getElem?_zip_eq_some (z := (n, sg))).mpr ⟨hn, hsg⟩]
              rfl
            rw [er] at e2
            obtain rfl := Option.some.inj e2
            exact ⟨ti, by rw [upd_ne n1, upd_same], keep _ _ (s3 _ _ eti) _⟩
      · rintro H3 ⟨s3, ra, eD2, hra, hrow⟩
        have hra : ra.length = 15 := hra
        walk_at "w"
        rename_i wa hwa
        have pxF : PX q H H3 := (px2.trans px).same s3
        have len15 : (baseRows tl names).length = 15 := by
          unfold baseRows
          rw [List.length_map, List.length_zip, hl15]
          rfl
        have s4 : Same H3 (upd H3 wa (.lst [vS tl, .ref D2])) := same_of (Same.refl _) hwa
        refine h _ wa D2 ra tl names (pxF.same s4) wt hl15 hw ⟨upd_same, s4 _ _ eD2, by rw [hra, len15], fun i a r e1 e2 => ?_⟩ (fresh_px pxF hp hwa) (fresh_px (px2.trans px) hp hD2)
        obtain ⟨b, q1, q2⟩ := hrow i a r e1 e2
        exact ⟨b, s4 _ _ q1, s4 _ _ q2⟩
end
end L

namespace L
open PySem PySem.Spec PyProof.Rows L2 Z M
open _root_.SX (S S_len S_inj)
section
theorem WdAt.ne {H : Hp} {wa rl : Addr} {ra : List Addr} {tl : List Nat} {rows : List WRow} (h : WdAt H wa rl ra tl rows) : wa ≠ rl := fun z => by
  have e := h.w
  rw [z, h.r] at e
  have e := Option.some.inj e
  injection e with e
  cases ra with
  | nil => cases e
  | cons a ra =>
    injection e with e _
    cases e
theorem WdAt.nq {H : Hp} {q wa rl : Addr} {ra : List Addr} {tl : List Nat} {rows : List WRow} (h : WdAt H wa rl ra tl rows) (hp : PoolAt H q) : wa ≠ q ∧ rl ≠ q :=
  ⟨ne_pool hp h.w (fun c k b s z => by cases z), ne_pool hp h.r fun c k b s z => by cases ra <;> simp at z⟩
theorem WdAt.px {H H' : Hp} {q wa rl : Addr} {ra : List Addr} {tl : List Nat} {rows : List WRow} (h : WdAt H wa rl ra tl rows) (hp : PoolAt H q) (px : PX q H H') : WdAt H' wa rl ra tl rows :=
  h.ch (S := [q]) (Ch.px px (List.mem_singleton.mpr rfl)) (fun b hb ys e => tup_pool hp e (List.mem_singleton.mp hb)) fun b hb => by rw [List.mem_singleton.mp hb]; exact ⟨(h.nq hp).1.symm, (h.nq hp).2.symm⟩
end
/-! the wide world: a second sort, six functions more -/
structure W3At (H : Hp) (wa rl : Addr) (ra : List Addr) (tl ot : List Nat) (rows : List WRow) : Prop where
  w : H wa = some (.lst [vS tl, .ref rl, vS ot])
  r : H rl = some (.lst (ra.map V.ref))
  len : ra.length = rows.length
  at_ : ∀ (i : Nat) (a : Addr) (r : WRow), ra[i]? = some a → rows[i]? = some r → RowAt H a r
theorem W3At.ch {S : List Addr} {H H' : Hp} {wa rl : Addr} {ra : List Addr} {tl ot : List Nat} {rows : List WRow} (h : W3At H wa rl ra tl ot rows) (c : Ch S H H') (m : NoTup S H) (n : ∀ b ∈ S, b ≠ wa ∧ b ≠ rl) : W3At H' wa rl ra tl ot rows :=
  ⟨c _ _ (fun z => (n _ z).1 rfl) h.w, c _ _ (fun z => (n _ z).2 rfl) h.r, h.len, fun i a r e1 e2 => by
    obtain ⟨b, g1, g2⟩ := h.at_ i a r e1 e2
    exact ⟨b, c.tup m g1, c.tup m g2⟩⟩
theorem W3At.same {H H' : Hp} {wa rl : Addr} {ra : List Addr} {tl ot : List Nat} {rows : List WRow} (h : W3At H wa rl ra tl ot rows) (c : Same H H') : W3At H' wa rl ra tl ot rows :=
  h.ch (S := []) (Ch.of c) (fun b hb => by cases hb) (fun b hb => by cases hb)
theorem W3At.ne {H : Hp} {wa rl : Addr} {ra : List Addr} {tl ot : List Nat} {rows : List WRow} (h : W3At H wa rl ra tl ot rows) : wa ≠ rl := fun z => by
  have e := h.w
  rw [z, h.r] at e
  have e := Option.some.inj e
  injection e with e
  cases ra with
  | nil => cases e
  | cons a ra =>
    injection e with e _
    cases e
theorem W3At.nq {H : Hp} {q wa rl : Addr} {ra : List Addr} {tl ot : List Nat} {rows : List WRow} (h : W3At H wa rl ra tl ot rows) (hp : PoolAt H q) : wa ≠ q ∧ rl ≠ q :=
  ⟨ne_pool hp h.w (fun c k b s z => by cases z), ne_pool hp h.r fun c k b s z => by cases ra <;> simp at z⟩
theorem W3At.px {H H' : Hp} {q wa rl : Addr} {ra : List Addr} {tl ot : List Nat} {rows : List WRow} (h : W3At H wa rl ra tl ot rows) (hp : PoolAt H q) (px : PX q H H') : W3At H' wa rl ra tl ot rows :=
  h.ch (S := [q]) (Ch.px px (List.mem_singleton.mpr rfl)) (fun b hb ys e => tup_pool hp e (List.mem_singleton.mp hb)) fun b hb => by rw [List.mem_singleton.mp hb]; exact ⟨(h.nq hp).1.symm, (h.nq hp).2.symm⟩
def wideSig (tl ot : List Nat) : List (List (List Nat) × List Nat) := [([], ot), ([], ot), ([ot], tl), ([tl, ot, WHOLE, RATIO], ot), ([WHOLE, WHOLE, WHOLE, WHOLE], TRUTH), ([ot, ot], RATIO)]
def rowsOf (NM : List (List Nat)) (SG : List (List (List Nat) × List Nat)) : List WRow := (NM.zip SG).map fun p => ⟨p.1, p.2.1, p.2.2⟩
section
variable {P : Program} {w : World} {K : PySem.W.Frag} {mg : Str → Option Value} {base : Heap}
def spWide3 : Sp := fun vs H Q _ => ∃ (q wa rl : Addr) (ra : List Addr) (tl : List Nat) (rows : List WRow), vs = [.ref q, .ref wa] ∧ PoolAt H q ∧ WdAt H wa rl ra tl rows ∧ rows.length ≤ 100 ∧
  ∀ H' wb rb ra' ot names, PX q H H' → Wd0 16 ot → names.length = 6 → (∀ (k : Nat) (n : List Nat), names[k]? = some n → Wd0 (k + 17) n) → W3At H' wb rb ra' tl ot (rows ++ rowsOf names (wideSig tl ot)) → H wb = none → H rb = none → Q (.ref wb) H'
theorem ok_wide (T : Txt K mg) : FnOk P w K mg base CX0 3 T.f_wide T.fd_wide ["_law_pool_here", "_law_world_here"] spWide3 := by
  have G_word := ok_word (P := P) (w := w) (base := base) T
  refine T.F_wide.ok sc_wide (fun vs H Q E h => ?_) (fun cdv A outer s H vs Q E hr h => ?_)
  · obtain ⟨q, wa, rl, ra, tl, rows, rfl, _⟩ := h
    rfl
  · obtain ⟨q, wa, rl, ra, tl, rows, rfl, hp, wd, hrl, h⟩ := h
    have ew := wd.w
    have hnq := wd.nq hp
    refine ⟨_, (pss_cons (ps_set (i := 2) sc_wide.nd rfl (.inl rfl) (pe_ix ix_list (pv 1) pe_int (fun _ _ => rfl)))
 (pss_cons (ps_set (i := 3) sc_wide.nd rfl (.inl rfl) (pe_call G_word (hr.mono (by first | decide | omega)) (by rfl) T.g_word T.F_word.kp T.b_word .nil pass0 (pa_cons (pv 0) (pa_cons pe_int pa_nil))))
 (pss_cons (ps_set (i := 4) sc_wide.nd rfl (.inr rfl) (pe_lst (pa_cons (pe_tup pa_nil) (pa_cons (pe_tup pa_nil) (pa_cons (pe_tup (pa_cons (pv 3) pa_nil)) (pa_cons (pe_tup (pa_cons (pv 2) (pa_cons (pv 3) (pa_cons (MT.pe_strS (l := [119, 104, 111, 108, 101]) (by decide +kernel)) (pa_cons (MT.pe_strS (l := [114, 97, 116, 105, 111]) (by decide +kernel)) pa_nil))))) (pa_cons (pe_tup (pa_cons (MT.pe_strS (l := [119, 104, 111, 108, 101]) (by decide +kernel)) (pa_cons (MT.pe_strS (l := [119, 104, 111, 108, 101]) (by decide +kernel)) (pa_cons (MT.pe_strS (l := [119, 104, 111, 108, 101]) (by decide +kernel)) (pa_cons (MT.pe_strS (l := [119, 104, 111, 108, 101]) (by decide +kernel)) pa_nil))))) (pa_cons (pe_tup (pa_cons (pv 3) (pa_cons (pv 3) pa_nil))) pa_nil))))))))
 (pss_cons (ps_set (i := 5) sc_wide.nd rfl (.inr rfl) (pe_lst (pa_cons (pv 3) (pa_cons (pv 3) (pa_cons (pv 2) (pa_cons (pv 3) (pa_cons (MT.pe_strS (l := [116, 114, 117, 116, 104]) (by decide +kernel)) (pa_cons (MT.pe_strS (l := [114, 97, 116, 105, 111]) (by decide +kernel)) pa_nil))))))))
 (pss_cons (ps_set (i := 6) sc_wide.nd rfl (.inr rfl) (pe_lc (own := [("_law_k", 7)]) (g := gName 7) (tt := tYes) (by rfl) sc_wide.nd (pi_range1 (by rfl) T.m_range (pa_cons pe_int pa_nil)) (blkOk_by (own := [("_law_k", 7)]) (N := N_wide) (sc := defScope s_wide) (by decide +kernel)) (fun _ _ _ _ _ => pg_name (i := 7) sc_wide.nd rfl (Or.inl rfl)) (fun _ _ _ _ _ => pts_nil) (fun _ _ _ _ _ => (pe_call G_word (hr.mono (by first | decide | omega)) (by rfl) T.g_word T.F_word.kp T.b_word .nil pass0 (pa_cons (pv 0) (pa_cons (pe_op op_add (pv 7) pe_int) pa_nil))))))
 (pss_one (ps_ret (pe_lst (pa_cons (pv 2) (pa_cons (pe_op op_cat (pe_ix ix_list (pv 1) pe_int (fun _ _ => rfl)) (pe_lc (own := [("_law_k", 7)]) (g := gName 7) (tt := tYes) (by rfl) sc_wide.nd (pi_range1 (by rfl) T.m_range (pa_cons pe_int pa_nil)) (blkOk_by (own := [("_law_k", 7)]) (N := N_wide) (sc := defScope s_wide) (by decide +kernel)) (fun _ _ _ _ _ => pg_name (i := 7) sc_wide.nd rfl (Or.inl rfl)) (fun _ _ _ _ _ => pts_nil) (fun _ _ _ _ _ => (pe_tup (pa_cons (pe_ix (show IxR _ (rIxL K) from ix_list) (pv 6) (pv 7) (fun _ _ => rfl)) (pa_cons (pe_ix (show IxR _ (rIxL K) from ix_list) (pv 4) (pv 7) (fun _ _ => rfl)) (pa_cons (pe_ix (show IxR _ (rIxL K) from ix_list) (pv 5) (pv 7) (fun _ _ => rfl)) pa_nil))))))) (pa_cons (pv 3) pa_nil))))))))))), ?_⟩
    refine Z.w_start (σ' := [some (.ref q), some (.ref wa), none, none, none, none, none, none]) rfl ?_
    walk_at "w"
    refine ⟨q, 16, rfl, hp, by decide, fun H1 ot px1 wt => ?_⟩
    have wd1 := wd.px hp px1
    walk_at "w"
    rename_i t0 h0 t1 h1 t2 h2 t3 h3 t4 h4 t5 h5 R hR S1 hS1
    have s12 : Same H1 (upd (upd (upd (upd (upd (upd (upd (upd H1 t0 (.tup [])) t1 (.tup [])) t2 (.tup [vS ot])) t3 (.tup [vS tl, vS ot, vS WHOLE, vS RATIO])) t4 (.tup [vS WHOLE, vS WHOLE, vS WHOLE, vS WHOLE])) t5 (.tup [vS ot, vS ot])) R (.lst [.ref t0, .ref t1, .ref t2, .ref t3, .ref t4, .ref t5])) S1 (.lst [vS ot, vS ot, vS tl, vS ot, vS TRUTH, vS RATIO])) := by walk_at "same"
    have eR : upd (upd (upd (upd (upd (upd (upd (upd H1 t0 (.tup [])) t1 (.tup [])) t2 (.tup [vS ot])) t3 (.tup [vS tl, vS ot, vS WHOLE, vS RATIO])) t4 (.tup [vS WHOLE, vS WHOLE, vS WHOLE, vS WHOLE])) t5 (.tup [vS ot, vS ot])) R (.lst [.ref t0, .ref t1, .ref t2, .ref t3, .ref t4, .ref t5])) S1 (.lst [vS ot, vS ot, vS tl, vS ot, vS TRUTH, vS RATIO]) R = some (.lst ([t0, t1, t2, t3, t4, t5].map V.ref)) := by walk_at "hp"
    have ers' : upd (upd (upd (upd (upd (upd (upd (upd H1 t0 (.tup [])) t1 (.tup [])) t2 (.tup [vS ot])) t3 (.tup [vS tl, vS ot, vS WHOLE, vS RATIO])) t4 (.tup [vS WHOLE, vS WHOLE, vS WHOLE, vS WHOLE])) t5 (.tup [vS ot, vS ot])) R (.lst [.ref t0, .ref t1, .ref t2, .ref t3, .ref t4, .ref t5])) S1 (.lst [vS ot, vS ot, vS tl, vS ot, vS TRUTH, vS RATIO]) S1 = some (.lst ((wideSig tl ot).map fun p => vS p.2)) := upd_same
    have eT : TupsAt (upd (upd (upd (upd (upd (upd (upd (upd H1 t0 (.tup [])) t1 (.tup [])) t2 (.tup [vS ot])) t3 (.tup [vS tl, vS ot, vS WHOLE, vS RATIO])) t4 (.tup [vS WHOLE, vS WHOLE, vS WHOLE, vS WHOLE])) t5 (.tup [vS ot, vS ot])) R (.lst [.ref t0, .ref t1, .ref t2, .ref t3, .ref t4, .ref t5])) S1 (.lst [vS ot, vS ot, vS tl, vS ot, vS TRUTH, vS RATIO])) [t0, t1, t2, t3, t4, t5] ((wideSig tl ot).map (·.1)) := ⟨by walk_at "hp", by walk_at "hp", by walk_at "hp", by walk_at "hp", by walk_at "hp", by walk_at "hp", trivial⟩
    generalize upd (upd (upd (upd (upd (upd (upd (upd H1 t0 (.tup [])) t1 (.tup [])) t2 (.tup [vS ot])) t3 (.tup [vS tl, vS ot, vS WHOLE, vS RATIO])) t4 (.tup [vS WHOLE, vS WHOLE, vS WHOLE, vS WHOLE])) t5 (.tup [vS ot, vS ot])) R (.lst [.ref t0, .ref t1, .ref t2, .ref t3, .ref t4, .ref t5])) S1 (.lst [vS ot, vS ot, vS tl, vS ot, vS TRUTH, vS RATIO]) = H2 at s12 eR ers' eT ⊢
    generalize htl : [t0, t1, t2, t3, t4, t5] = ts at eR eT
    have hp2 : PoolAt H2 q := px1.2.same s12
    have px2 : PX q H H2 := px1.same s12
    walk_at "w"
    refine ⟨by omega, by omega, fun D hD => ?_⟩
    have hD0 : H D = none := fresh_px px2 hp hD
    refine lc_range (lo := 0) (n := _) (fun i H' => PX q H2 H' ∧ ∃ names : List (List Nat), H' D = some (.lst (names.map vS)) ∧ names.length = i ∧ ∀ (k : Nat) (n : List Nat), names[k]? = some n → Wd0 (k + 17) n) ⟨(PX.refl hp2).new hD, [], upd_same, rfl, fun k n e => by simp at e⟩ ?_ ?_
    · rintro i H' hi ⟨px, names, eD, hl, hw⟩
      have hi15 : i < 6 := hi
      have e0 : (0 : Int) + (i : Int) = (i : Int) := Int.zero_add _
      rw [e0]
      refine Z.w_gname (σ' := [some (.ref q), some (.ref wa), some (vS tl), some (vS ot), some (.ref R), some (.ref S1), none, some (.int (i : Int))]) rfl ⟨rfl, ?_⟩
      walk_at "w"
      refine ⟨q, i + 17, rfl, px.2, by omega, fun H3 n px3 wn => ?_⟩
      have nDq : D ≠ q := fun z => by
        obtain ⟨o3, h3, _⟩ := hp2
        rw [z, h3] at hD
        cases hD
      refine ⟨_, px3.3 _ _ nDq eD, ?_, (px.trans px3).mutF hp2 hD, names ++ [n], ?_, ?_, fun k m e => ?_⟩
      · rw [List.length_map, hl]
        exact Nat.lt_trans hi15 (by decide)
      · rw [upd_same, List.map_append]
        rfl
      · rw [List.length_append, hl]
        rfl
      · by_cases hk : k < names.length
        · rw [List.getElem?_append_left hk] at e
          exact hw k m e
        · have hlt := (List.getElem?_eq_some_iff.mp e).1
          rw [List.length_append, List.length_singleton] at hlt
          obtain rfl : k = names.length := by omega
          rw [List.getElem?_append_right (Nat.le_refl _), Nat.sub_self] at e
          obtain rfl := Option.some.inj e
          rw [hl]
          exact wn
    · rintro H' ⟨px, names, eD, hl, hw⟩
      have hl15 : names.length = 6 := hl
      have hp' := px.2
      have rest : ∀ b x, b ≠ q → H2 b = some x → H' b = some x := px.3
      have nRq : R ≠ q := ne_pool hp2 eR fun c k b s z => by cases ts <;> simp at z
      have nsq : S1 ≠ q := ne_pool hp2 ers' fun c k b s z => by simp [wideSig] at z
      have eR' := rest _ _ nRq eR
      have ers2 := rest _ _ nsq ers'
      have eT' : ∀ (i : Nat) (s : List (List Nat)), ((wideSig tl ot).map (·.1))[i]? = some s → ∃ a, ts[i]? = some a ∧ H' a = some (.tup (s.map vS)) := fun i s e => by
        obtain ⟨a, a1, a2⟩ := eT.get i s e
        exact ⟨a, a1, rest _ _ (tup_pool hp2 a2) a2⟩
      have wdE := wd.px hp (px2.trans px)
      have ewE := wdE.w
      walk_at "w"
      refine ⟨by omega, by omega, fun D2 hD2 => ?_⟩
      refine lc_range (lo := 0) (n := _) (fun i H3 => Same H' H3 ∧ ∃ ra : List Addr, H3 D2 = some (.lst (ra.map V.ref)) ∧ ra.length = i ∧ ∀ (k : Nat) (a : Addr) (r : WRow), ra[k]? = some a → (rowsOf names (wideSig tl ot))[k]? = some r → RowAt H3 a r) ⟨same_of (Same.refl _) hD2, [], upd_same, rfl, fun k a r e => by simp at e⟩ ?_ ?_
      · rintro i H3 hi ⟨s3, ra, eD2, hra, hrow⟩
        have hi15 : i < 6 := hi
        have e0 : (0 : Int) + (i : Int) = (i : Int) := Int.zero_add _
        rw [e0]
        obtain ⟨n, hn⟩ : ∃ n, names[i]? = some n := ⟨names[i], List.getElem?_eq_getElem (by omega)⟩
        obtain ⟨sg, hsg⟩ : ∃ sg, (wideSig tl ot)[i]? = some sg := ⟨(wideSig tl ot)[i]'hi15, List.getElem?_eq_getElem hi15⟩
        obtain ⟨ti, hti, eti⟩ := eT' i sg.1 (by rw [List.getElem?_map, hsg]; rfl)
        have f1 := s3 _ _ eD
        have f2 := s3 _ _ eR'
        have f3 := s3 _ _ ers2
        have g1 : atI (names.map vS) (i : Int) = some (vS n) := atI_nat (by rw [List.getElem?_map, hn]; rfl)
        have g2 : atI (ts.map V.ref) (i : Int) = some (.ref ti) := atI_nat (by rw [List.getElem?_map, hti]; rfl)
        have g3 : atI ((wideSig tl ot).map fun p => vS p.2) (i : Int) = some (vS sg.2) := atI_nat (by rw [List.getElem?_map, hsg]; rfl)
        refine Z.w_gname (σ' := [some (.ref q), some (.ref wa), some (vS tl), some (vS ot), some (.ref R), some (.ref S1), some (.ref D), some (.int (i : Int))]) rfl ⟨rfl, ?_⟩
        walk_at "w"
        rename_i p hpn
        have n1 : p ≠ D2 := fun z => by rw [z, eD2] at hpn; cases hpn
        refine ⟨_, upd_of hpn eD2, ?_, same_mut (same_of s3 hpn) hD2, ra ++ [p], ?_, ?_, fun k a r e1 e2 => ?_⟩
        · rw [List.length_map, hra]
          exact Nat.lt_trans hi15 (by decide)
        · rw [upd_same, List.map_append]
          rfl
        · rw [List.length_append, hra]
          rfl
        · have keep : ∀ b ys, H3 b = some (.tup ys) → ∀ u, upd (upd H3 p (.tup [vS n, .ref ti, vS sg.2])) D2 u b = some (.tup ys) := fun b ys e u => by
            rw [upd_ne (fun z => by rw [z, eD2] at e; cases e)]
            exact upd_of hpn e
          by_cases hk : k < ra.length
          · rw [List.getElem?_append_left hk] at e1
            obtain ⟨b, q1, q2⟩ := hrow k a r e1 e2
            exact ⟨b, keep _ _ q1 _, keep _ _ q2 _⟩
          · have hlt := (List.getElem?_eq_some_iff.mp e1).1
            rw [List.length_append, List.length_singleton] at hlt
            obtain rfl : k = ra.length := by omega
            rw [List.getElem?_append_right (Nat.le_refl _), Nat.sub_self] at e1
            obtain rfl := Option.some.inj e1
            rw [hra] at e2
            have er : (rowsOf names (wideSig tl ot))[i]? = some ⟨n, sg.1, sg.2⟩ := by
              unfold rowsOf
              rw [List.getElem?_map, (List.getElem?_zip_eq_some (z := (n, sg))).mpr ⟨hn, hsg⟩]
              rfl
            rw [er] at e2
            obtain rfl := Option.some.inj e2
            exact ⟨ti, by rw [upd_ne n1, upd_same], keep _ _ (s3 _ _ eti) _⟩
      · rintro H3 ⟨s3, ra2, eD2, hra, hrow⟩
        have hra : ra2.length = 6 := hra
        have wd3 := wdE.same s3
        refine w_catS wd3.r eD2 (by rw [List.length_map, List.length_map, wd.len]; omega) fun rb H4 sm4 fb erb => ?_
        have pxF : PX q H H3 := (px2.trans px).same s3
        have len6 : (rowsOf names (wideSig tl ot)).length = 6 := by
          unfold rowsOf
          rw [List.length_map, List.length_zip, hl15]
          rfl
        have wd4 := wd3.same sm4
        walk_at "w"
        rename_i wb hwb
        have s5 : Same H4 (upd H4 wb (.lst [vS tl, .ref rb, vS ot])) := same_of (Same.refl _) hwb
        refine h _ wb rb (ra ++ ra2) ot names ((pxF.same sm4).same s5) wt hl15 hw ⟨upd_same, by rw [List.map_append]; exact s5 _ _ erb, by rw [List.length_append, List.length_append, wd.len, hra, len6], fun i a r e1 e2 => ?_⟩ (fresh_px (pxF.same sm4) hp hwb) (fresh_px pxF hp fb)
        by_cases hi : i < rows.length
        · rw [List.getElem?_append_left (by rw [wd.len]; exact hi)] at e1
          rw [List.getElem?_append_left hi] at e2
          obtain ⟨b, q1, q2⟩ := wd4.at_ i a r e1 e2
          exact ⟨b, s5 _ _ q1, s5 _ _ q2⟩
        · rw [List.getElem?_append_right (by rw [wd.len]; omega), wd.len] at e1
          rw [List.getElem?_append_right (by omega)] at e2
          obtain ⟨b, q1, q2⟩ := hrow _ a r e1 e2
          exact ⟨b, s5 _ _ (sm4 _ _ q1), s5 _ _ (sm4 _ _ q2)⟩
end
end L

namespace L
open PySem PySem.Spec PyProof.Rows L2 Z M
open _root_.SX (S S_len S_inj)
/-! the wide world is in order -/
def sort5 (tl ot : List Nat) : List (List Nat) := [tl, WHOLE, RATIO, TRUTH, ot]
def isC (s : List Nat) (r : WRow) : Bool := decide (r.args = []) && decide (r.res = s)
structure WOk (tl ot : List Nat) (rows : List WRow) : Prop where
  tn : nameB tl = true
  on : nameB ot = true
  tz : tl.length ≤ 1000
  oz : ot.length ≤ 1000
  ne : tl ≠ ot
  nm : ∀ r ∈ rows, nameB r.name = true ∧ r.name.length ≤ 1000 ∧ r.name ≠ tl ∧ r.name ≠ ot
  nd : (rows.map (·.name)).Nodup
  ar : ∀ r ∈ rows, r.args.length ≤ 14 ∧ ∀ a ∈ r.args, a ∈ sort5 tl ot ∧ a ≠ TRUTH
  rs : ∀ r ∈ rows, r.res ∈ sort5 tl ot
  cs : ∀ s ∈ sort5 tl ot, 2 ≤ (rows.filter (isC s)).length
  len : rows.length = 21
  c5 : ∀ k ∈ [0, 5, 9, 15, 1, 6], ∃ r, rows[k]? = some r ∧ r.args = []
theorem nameB_lt {l : List Nat} (h : nameB l = true) : ∀ c ∈ l, c < 128 := fun c hc => by
  unfold nameB at h
  simp only [Bool.and_eq_true] at h
  exact of_decide_eq_true (List.all_eq_true.mp h.1.1.2 c hc)
theorem WOk.nlt {tl ot : List Nat} {rows : List WRow} (h : WOk tl ot rows) : ∀ r ∈ rows, ∀ c ∈ r.name, c < 128 := fun r hr => nameB_lt (h.nm r hr).1
theorem WOk.slt {tl ot : List Nat} {rows : List WRow} (h : WOk tl ot rows) : ∀ a ∈ sort5 tl ot, ∀ c ∈ a, c < 128 := fun a ha => by
  unfold sort5 at ha
  rcases List.mem_cons.mp ha with e | ha
  · rw [e]; exact nameB_lt h.tn
  rcases List.mem_cons.mp ha with e | ha
  · rw [e]; decide
  rcases List.mem_cons.mp ha with e | ha
  · rw [e]; decide
  rcases List.mem_cons.mp ha with e | ha
  · rw [e]; decide
  · rw [List.mem_singleton.mp ha]; exact nameB_lt h.on
theorem WOk.lay {tl ot : List Nat} {rows : List WRow} (h : WOk tl ot rows) : ∀ r ∈ rows, ∀ l ∈ r.args, PyData.canLay0 (.str (S l)) = true := fun r hr l hl => lay_lt (h.slt l ((h.ar r hr).2 l hl).1)
theorem two_filter {α : Type} {p : α → Bool} {l : List α} {i j : Nat} {a b : α} (h : i < j) (h1 : l[i]? = some a) (h2 : l[j]? = some b) (p1 : p a = true) (p2 : p b = true) : 2 ≤ (l.filter p).length := by
  have e : l = l.take (i + 1) ++ l.drop (i + 1) := (List.take_append_drop _ _).symm
  rw [e, List.filter_append, List.length_append]
  have m1 : a ∈ (l.take (i + 1)).filter p := List.mem_filter.mpr ⟨List.mem_of_getElem? (i := i) (by rw [List.getElem?_take, if_pos (by omega)]; exact h1), p1⟩
  have m2 : b ∈ (l.drop (i + 1)).filter p := List.mem_filter.mpr ⟨List.mem_of_getElem? (i := j - (i + 1)) (by rw [List.getElem?_drop, show i + 1 + (j - (i + 1)) = j by omega]; exact h2), p2⟩
  have := List.length_pos_of_mem m1
  have := List.length_pos_of_mem m2
  omega
theorem rowsOf_mem {NM : List (List Nat)} {SG : List (List (List Nat) × List Nat)} {r : WRow} (hr : r ∈ rowsOf NM SG) : (∃ k : Nat, NM[k]? = some r.name) ∧ (r.args, r.res) ∈ SG := by
  unfold rowsOf at hr
  obtain ⟨p, hp, rfl⟩ := List.mem_map.mp hr
  obtain ⟨k, hk⟩ := List.mem_iff_getElem?.mp hp
  obtain ⟨h1, h2⟩ := List.getElem?_zip_eq_some.mp hk
  exact ⟨⟨k, h1⟩, List.mem_of_getElem? h2⟩
theorem rowsOf_at {NM : List (List Nat)} {SG : List (List (List Nat) × List Nat)} (h : NM.length = SG.length) {k : Nat} {s : List (List Nat) × List Nat} (e : SG[k]? = some s) : ∃ n, (rowsOf NM SG)[k]? = some ⟨n, s.1, s.2⟩ := by
  have hk : k < NM.length := by rw [h]; exact (List.getElem?_eq_some_iff.mp e).1
  refine ⟨NM[k], ?_⟩
  unfold rowsOf
  rw [List.getElem?_map, (List.getElem?_zip_eq_some (z := (NM[k], s))).mpr ⟨List.getElem?_eq_getElem hk, e⟩]
  rfl
theorem rows_eq {tl ot : List Nat} {names names2 : List (List Nat)} (hl : names.length = 15) : baseRows tl names ++ rowsOf names2 (wideSig tl ot) = rowsOf (names ++ names2) (baseSig tl ++ wideSig tl ot) := by
  unfold rowsOf baseRows
  rw [List.zip_append (by rw [hl]; rfl), List.map_append]
theorem sig_ok {tl ot : List Nat} (h1 : tl ≠ TRUTH) (h2 : ot ≠ TRUTH) : ∀ p ∈ baseSig tl ++ wideSig tl ot, p.1.length ≤ 14 ∧ (∀ a ∈ p.1, a ∈ sort5 tl ot ∧ a ≠ TRUTH) ∧ p.2 ∈ sort5 tl ot := by
  have five : ∀ a ∈ [tl, ot, WHOLE, RATIO], a ∈ sort5 tl ot ∧ a ≠ TRUTH := by
    intro a ha
    unfold sort5
    rcases List.mem_cons.mp ha with e | ha
    · rw [e]; exact ⟨by simp, h1⟩
    rcases List.mem_cons.mp ha with e | ha
    · rw [e]; exact ⟨by simp, h2⟩
    rcases List.mem_cons.mp ha with e | ha
    · rw [e]; exact ⟨by simp, by decide⟩
    · rw [List.mem_singleton.mp ha]; exact ⟨by simp, by decide⟩
  have sub : ∀ xs : List (List Nat), (∀ a ∈ xs, a ∈ [tl, ot, WHOLE, RATIO]) → ∀ a ∈ xs, a ∈ sort5 tl ot ∧ a ≠ TRUTH := fun xs h a ha => five a (h a ha)
  intro p hp
  unfold baseSig wideSig at hp
  simp only [List.cons_append, List.nil_append, List.mem_cons, List.not_mem_nil, or_false] at hp
  rcases hp with rfl | rfl | rfl | rfl | rfl | rfl | rfl | rfl | rfl | rfl | rfl | rfl | rfl | rfl | rfl | rfl | rfl | rfl | rfl | rfl | rfl <;> exact ⟨by simp, sub _ (by simp), by unfold sort5; simp⟩
theorem Wd0.ne_low {p : Nat} {l m : List Nat} (hp : p < 26) (h : Wd0 p l) (hm : ∀ c ∈ m, 97 ≤ c) : l ≠ m := fun e => h.not_low hp (by rw [e]; exact hm)
theorem world_ok {tl ot : List Nat} {NM : List (List Nat)} (ht : Wd0 0 tl) (ho : Wd0 16 ot) (hl : NM.length = 21) (hw : ∀ (k : Nat) (n : List Nat), NM[k]? = some n → Wd0 (if k < 15 then k + 1 else k + 2) n) : WOk tl ot (rowsOf NM (baseSig tl ++ wideSig tl ot)) := by
  have hSG : NM.length = (baseSig tl ++ wideSig tl ot).length := by rw [hl]; rfl
  have hk : ∀ (k : Nat) (n : List Nat), NM[k]? = some n → (if k < 15 then k + 1 else k + 2) < 26 := fun k n e => by
    have := (List.getElem?_eq_some_iff.mp e).1
    split <;> omega
  have tT : tl ≠ TRUTH := ht.ne_low (by decide) (by decide)
  have oT : ot ≠ TRUTH := ho.ne_low (by decide) (by decide)
  have sg := sig_ok tT oT
  have two : ∀ (s : List Nat) (i j : Nat), i < j → (baseSig tl ++ wideSig tl ot)[i]? = some ([], s) → (baseSig tl ++ wideSig tl ot)[j]? = some ([], s) → 2 ≤ ((rowsOf NM (baseSig tl ++ wideSig tl ot)).filter (isC s)).length := fun s i j h e1 e2 => by
    obtain ⟨n1, q1⟩ := rowsOf_at hSG e1
    obtain ⟨n2, q2⟩ := rowsOf_at hSG e2
    exact two_filter h q1 q2 (by simp [isC]) (by simp [isC])
  refine ⟨ht.name (by decide), ho.name (by decide), Nat.le_trans ht.len (by decide), Nat.le_trans ho.len (by decide), fun e => ?_, fun r hr => ?_, ?_, fun r hr => ?_, fun r hr => ?_, fun s hs => ?_, ?_, fun k hk => ?_⟩
  · rw [← e] at ho
    exact absurd (Wd0.inj (by decide) (by decide) ht ho) (by decide)
  · obtain ⟨⟨k, hk'⟩, _⟩ := rowsOf_mem hr
    have hx := hw k _ hk'
    have hb := hk k _ hk'
    refine ⟨hx.name hb, Nat.le_trans hx.len (by decide), fun e => ?_, fun e => ?_⟩
    · rw [e] at hx
      have := Wd0.inj hb (by decide) hx ht
      split at this <;> omega
    · rw [e] at hx
      have := Wd0.inj hb (by decide) hx ho
      split at this <;> omega
  · have e : (rowsOf NM (baseSig tl ++ wideSig tl ot)).map (·.name) = NM := by
      unfold rowsOf
      rw [List.map_map]
      exact List.map_fst_zip (Nat.le_of_eq hSG)
    rw [e]
    refine List.pairwise_iff_getElem.mpr fun i j hi hj hij e => ?_
    have h1 := hw i _ (List.getElem?_eq_getElem hi)
    have h2 := hw j _ (List.getElem?_eq_getElem hj)
    rw [e] at h1
    have := Wd0.inj (hk i _ (List.getElem?_eq_getElem hi)) (hk j _ (List.getElem?_eq_getElem hj)) h1 h2
    split at this <;> split at this <;> omega
  · obtain ⟨_, hm⟩ := rowsOf_mem hr
    have := sg _ hm
    exact ⟨this.1, this.2.1⟩
  · obtain ⟨_, hm⟩ := rowsOf_mem hr
    exact (sg _ hm).2.2
  · unfold sort5 at hs
    rcases List.mem_cons.mp hs with e | hs
    · rw [e]; exact two tl 0 1 (by decide) rfl rfl
    rcases List.mem_cons.mp hs with e | hs
    · rw [e]; exact two WHOLE 5 6 (by decide) rfl rfl
    rcases List.mem_cons.mp hs with e | hs
    · rw [e]; exact two RATIO 9 10 (by decide) rfl rfl
    rcases List.mem_cons.mp hs with e | hs
    · rw [e]; exact two TRUTH 12 13 (by decide) rfl rfl
    · rw [List.mem_singleton.mp hs]; exact two ot 15 16 (by decide) rfl rfl
  · unfold rowsOf
    rw [List.length_map, List.length_zip, ← hSG, Nat.min_self, hl]
  · have key : ∀ s : List Nat, (baseSig tl ++ wideSig tl ot)[k]? = some ([], s) → ∃ r, (rowsOf NM (baseSig tl ++ wideSig tl ot))[k]? = some r ∧ r.args = [] := fun s e => by
      obtain ⟨n, hn⟩ := rowsOf_at hSG e
      exact ⟨_, hn, rfl⟩
    simp only [List.mem_cons, List.not_mem_nil, or_false] at hk
    rcases hk with rfl | rfl | rfl | rfl | rfl | rfl
    · exact key tl rfl
    · exact key WHOLE rfl
    · exact key RATIO rfl
    · exact key ot rfl
    · exact key tl rfl
    · exact key WHOLE rfl
end L

namespace M
theorem mulb {a b : Int} (h1 : -(2 ^ 20) ≤ a) (h2 : a ≤ 2 ^ 20) (h3 : -(2 ^ 60) < b) (h4 : b < 2 ^ 60) : -(2 ^ 90) < a * b ∧ a * b < 2 ^ 90 := by
  have ha : a.natAbs ≤ 2 ^ 20 := by omega
  have hb : b.natAbs ≤ 2 ^ 60 := by omega
  have h := Nat.mul_le_mul ha hb
  rw [← Int.natAbs_mul] at h
  omega
theorem bits_lt (b : Nat) : b < 2 ^ PySem.Builtin.Int.intBits (b : Int) := by
  unfold PySem.Builtin.Int.intBits
  by_cases h : b = 0
  · subst h; decide
  · have e : ((b : Int) == 0) = false := by
      simp only [beq_eq_false_iff_ne]
      omega
    rw [e]
    simp only [Bool.false_eq_true, if_false, Int.natAbs_natCast]
    exact Nat.lt_log2_self
theorem half {x y : Nat} (h : y < x) (hy : 0 < y) : 2 * (x % y) < x := by
  have h1 := Nat.mod_lt x hy
  have h2 := Nat.div_add_mod x y
  have h3 : 1 ≤ x / y := (Nat.le_div_iff_mul_le hy).mpr (by omega)
  have h4 : y * 1 ≤ y * (x / y) := Nat.mul_le_mul_left y h3
  omega
/-- Euclid's pairs: A, B the first, L bits of B, i turns -/
def Eu (A B L i x y : Nat) : Prop := Nat.gcd x y = Nat.gcd A B ∧ (i = 0 → x = A ∧ y = B) ∧ (1 ≤ i → y < x ∧ x * y * 2 ^ (i - 1) < 2 ^ (2 * L))
theorem eu_zero (A B L : Nat) : Eu A B L 0 A B := ⟨rfl, fun _ => ⟨rfl, rfl⟩, fun h => by omega⟩
theorem eu_next {A B L i x y : Nat} (hB : B < 2 ^ L) (h : Eu A B L i x y) (hy : y ≠ 0) : Eu A B L (i + 1) y (x % y) := by
  obtain ⟨g, h0, h1⟩ := h
  have hy' : 0 < y := by omega
  have hm := Nat.mod_lt x hy'
  refine ⟨?_, fun z => by omega, fun _ => ⟨hm, ?_⟩⟩
  · rw [← g, Nat.gcd_comm x y, Nat.gcd_rec y x]
    exact (Nat.gcd_comm _ _)
  · show y * (x % y) * 2 ^ (i + 1 - 1) < 2 ^ (2 * L)
    rw [Nat.add_sub_cancel]
    by_cases hi : i = 0
    · obtain ⟨rfl, rfl⟩ := h0 hi
      subst hi
      have e : 2 ^ (2 * L) = 2 ^ L * 2 ^ L := by rw [Nat.two_mul, Nat.pow_add]
      rw [e, Nat.pow_zero, Nat.mul_one]
      exact Nat.mul_lt_mul'' hB (by omega)
    · obtain ⟨hlt, hb⟩ := h1 (by omega)
      have hh := half hlt hy'
      have e : 2 ^ i = 2 * 2 ^ (i - 1) := by
        rw [show i = (i - 1) + 1 by omega, Nat.pow_succ, Nat.mul_comm]
        simp
      rw [e]
      have h5 : y * (x % y) * (2 * 2 ^ (i - 1)) = (2 * (x % y)) * y * 2 ^ (i - 1) := by
        simp only [Nat.mul_comm, Nat.mul_left_comm, Nat.mul_assoc]
      rw [h5]
      refine Nat.lt_of_le_of_lt ?_ hb
      exact Nat.mul_le_mul_right _ (Nat.mul_le_mul_right _ (by omega))
theorem eu_end {A B L i x y : Nat} (hi : i = 2 * L + 5) (h : Eu A B L i x y) : y = 0 := by
  obtain ⟨_, _, h1⟩ := h
  obtain ⟨hlt, hb⟩ := h1 (by omega)
  by_cases hy : y = 0
  · exact hy
  · exfalso
    have h2 : 1 ≤ x * y := Nat.mul_pos (by omega) (by omega)
    have h3 : 2 ^ (2 * L) ≤ 2 ^ (i - 1) := Nat.pow_le_pow_right (by decide) (by omega)
    have h4 : 1 * 2 ^ (i - 1) ≤ x * y * 2 ^ (i - 1) := Nat.mul_le_mul_right _ h2
    omega
theorem eu_gcd {A B L i x : Nat} (h : Eu A B L i x 0) : x = Nat.gcd A B := by
  have := h.1
  rw [Nat.gcd_zero_right] at this
  exact this
/-- what ratio makes of p / q -/
def RatOf (p q a b : Int) : Prop := 1 ≤ b ∧ Nat.gcd a.natAbs b.natAbs = 1 ∧ a * q = p * b ∧ a.natAbs ≤ p.natAbs ∧ b.natAbs ≤ q.natAbs
theorem rat_pos {p q : Int} (hq : 0 < q) : RatOf p q (p / ((Nat.gcd p.natAbs q.natAbs : Nat) : Int)) (q / ((Nat.gcd p.natAbs q.natAbs : Nat) : Int)) := by
  generalize hg : Nat.gcd p.natAbs q.natAbs = g
  have g0 : 0 < g := by rw [← hg]; exact Nat.gcd_pos_of_pos_right _ (by omega)
  have d1 : (g : Int) ∣ p := by
    rw [← hg]
    exact Int.ofNat_dvd_left.mpr (Nat.gcd_dvd_left _ _)
  have d2 : (g : Int) ∣ q := by
    rw [← hg]
    exact Int.ofNat_dvd_left.mpr (Nat.gcd_dvd_right _ _)
  obtain ⟨a, ha⟩ := d1
  obtain ⟨b, hb⟩ := d2
  have gz : (g : Int) ≠ 0 := by omega
  have e1 : p / (g : Int) = a := by rw [ha]; exact Int.mul_ediv_cancel_left _ gz
  have e2 : q / (g : Int) = b := by rw [hb]; exact Int.mul_ediv_cancel_left _ gz
  rw [e1, e2]
  have hbp : 0 < b := by
    rcases Int.lt_or_le 0 b with h | h
    · exact h
    · exfalso
      have : (g : Int) * b ≤ 0 := Int.mul_nonpos_of_nonneg_of_nonpos (by omega) h
      omega
  have np : p.natAbs = g * a.natAbs := by rw [ha, Int.natAbs_mul, Int.natAbs_natCast]
  have nq : q.natAbs = g * b.natAbs := by rw [hb, Int.natAbs_mul, Int.natAbs_natCast]
  refine ⟨by omega, ?_, ?_, ?_, ?_⟩
  · have h := hg
    rw [np, nq, Nat.gcd_mul_left] at h
    exact Nat.eq_of_mul_eq_mul_left g0 (by rw [h, Nat.mul_one])
  · rw [ha, hb]
    simp only [Int.mul_comm, Int.mul_left_comm, Int.mul_assoc]
  · rw [np]
    exact Nat.le_mul_of_pos_left _ g0
  · rw [nq]
    exact Nat.le_mul_of_pos_left _ g0
theorem rat_neg {p q : Int} (hq : q < 0) : RatOf p q (-p / ((Nat.gcd (-p).natAbs (-q).natAbs : Nat) : Int)) (-q / ((Nat.gcd (-p).natAbs (-q).natAbs : Nat) : Int)) := by
  obtain ⟨h1, h2, h3, h4, h5⟩ := rat_pos (p := -p) (q := -q) (by omega)
  refine ⟨h1, h2, ?_, by omega, by omega⟩
  rw [Int.mul_neg, Int.neg_mul] at h3
  exact Int.neg_inj.mp h3
end M

namespace L
open PySem PySem.Spec PyProof.Rows L2 Z M
section
variable {P : Program} {w : World} {K : PySem.W.Frag} {mg : Str → Option Value} {base : Heap}
/-- (p // g, q // g) -/
def lowP (p q : Int) : Int := p / ((Nat.gcd p.natAbs q.natAbs : Nat) : Int)
def lowQ (p q : Int) : Int := q / ((Nat.gcd p.natAbs q.natAbs : Nat) : Int)
def spLowest : Sp := fun vs H Q _ => ∃ p q : Int, vs = [.int p, .int q] ∧ 0 < q ∧ p.natAbs < 2 ^ 200 ∧ q.natAbs < 2 ^ 200 ∧ ∀ t, H t = none → Q (.ref t) (upd H t (.tup [.int (lowP p q), .int (lowQ p q)]))
theorem ok_lowest (T : Txt K mg) : FnOk P w K mg base CX0 1 T.f_lowest T.fd_lowest ["_law_p", "_law_q"] spLowest := by
  refine T.F_lowest.ok sc_lowest (fun vs H Q E h => ?_) (fun cdv A outer s H vs Q E hr h => ?_)
  · obtain ⟨a, b, rfl, _⟩ := h
    rfl
  · obtain ⟨p, q, rfl, h0, hp, hb, hq⟩ := h
    refine ⟨_, (pss_cons (ps_set (i := 2) sc_lowest.nd rfl (.inl rfl) (pe_callB call_abs (by rfl) T.m_abs (by decide +kernel) (pa_cons (pv 0) pa_nil)))
 (pss_cons (ps_set (i := 3) sc_lowest.nd rfl (.inl rfl) (pv 1))
 (pss_cons (ps_for PassesOwn.never rfl (pi_range1 (by rfl) T.m_range (pa_cons (pe_op op_add (pe_op op_mul pe_int (pe_bits (pv 3))) pe_int) pa_nil)) (pg_name (i := 4) sc_lowest.nd rfl (.inl rfl)) (pss_cons (ps_if (pt_cmpR op_eq (pv 3) pe_int (nomark _)) (pss_one ps_break) pss_nil)
 (pss_one (ps_par (i := 2) (j := 3) (by rfl) sc_lowest.nd rfl rfl (by decide) rfl rfl (pa_cons (pv 3) (pa_cons (pe_op op_mod (pe_callTy call_int1 (by rfl) T.m_int (by decide +kernel) (pa_cons (pv 2) pa_nil)) (pe_callTy call_int1 (by rfl) T.m_int (by decide +kernel) (pa_cons (pv 3) pa_nil))) pa_nil)) (by rfl)))))
 (pss_one (ps_ret (pe_tup (pa_cons (pe_op op_fdivW (pv 0) (pv 2)) (pa_cons (pe_op op_fdivW (pv 1) (pv 2)) pa_nil)))))))), ?_⟩
    refine Z.w_start (σ' := [some (.int p), some (.int q), none, none, none]) rfl ?_
    walk_at "w"
    have ea : (if p < 0 then -p else p) = (p.natAbs : Int) := by split <;> omega
    have eb : q = (q.natAbs : Int) := by omega
    rw [ea]
    have hL := bits_lt q.natAbs
    have hL2 : Builtin.Int.intBits (q.natAbs : Int) ≤ 201 := by
      unfold Builtin.Int.intBits
      split
      · omega
      · have := PySem.Flt.log2_lt_of (show 0 < 200 by decide) hb
        rw [Int.natAbs_natCast]
        omega
    rw [← eb] at hL hL2
    generalize hn : Builtin.Int.intBits q = n at *
    refine ⟨by omega, by omega, ?_⟩
    refine for_range (lo := 0) (n := (2 * (n : Int) + 5).toNat) (fun i σ H' => ∃ (u v : Nat) (x4 : Option V), σ = [some (.int p), some (.int q), some (.int u), some (.int v), x4] ∧ H' = H ∧ Eu p.natAbs q.natAbs n i u v) ?_ ?_ ?_
    · exact ⟨p.natAbs, q.natAbs, _, by rw [← eb], rfl, eu_zero _ _ _⟩
    · rintro i σ H' hi ⟨u, v, x2, rfl, rfl, he⟩
      walk_at "w"
      walk_at "wi"
      · rename_i hv
        have hv' : v = 0 := by omega
        subst hv'
        have hg := eu_gcd he
        subst hg
        have g0 : 0 < Nat.gcd p.natAbs q.natAbs := Nat.gcd_pos_of_pos_right _ (by omega)
        have g1 : Nat.gcd p.natAbs q.natAbs ≤ q.natAbs := Nat.le_of_dvd (by omega) (Nat.gcd_dvd_right _ _)
        walk_at "w"
        exact hq _ (by assumption)
      · walk_at "w"
        exact ⟨v, u % v, _, rfl, rfl, eu_next hL he (by omega)⟩
    · rintro σ H' ⟨u, v, x2, rfl, rfl, he⟩
      have hv := eu_end (by omega) he
      subst hv
      have hg := eu_gcd he
      subst hg
      have g0 : 0 < Nat.gcd p.natAbs q.natAbs := Nat.gcd_pos_of_pos_right _ (by omega)
      have g1 : Nat.gcd p.natAbs q.natAbs ≤ q.natAbs := Nat.le_of_dvd (by omega) (Nat.gcd_dvd_right _ _)
      walk_at "w"
      exact hq _ (by assumption)
theorem use_lowest {p q : Int} {H : Hp} {Q : VK} {E : XK} (h0 : 0 < q) (h1 : p.natAbs < 2 ^ 200) (h2 : q.natAbs < 2 ^ 200) (h : ∀ t, H t = none → Q (.ref t) (upd H t (.tup [.int (lowP p q), .int (lowQ p q)]))) : spLowest [.int p, .int q] H Q E := ⟨p, q, rfl, h0, h1, h2, h⟩
/-- in lowest terms, of at most 90 bits -/
def Lo (a b : Int) : Prop := 1 ≤ b ∧ b < 2 ^ 90 ∧ -(2 ^ 90 : Int) < a ∧ a < 2 ^ 90 ∧ Nat.gcd a.natAbs b.natAbs = 1
theorem lo_low {p q : Int} (h0 : 0 < q) (h1 : q < 2 ^ 90) (h2 : -(2 ^ 90 : Int) < p) (h3 : p < 2 ^ 90) : Lo (lowP p q) (lowQ p q) := by
  obtain ⟨r1, r2, r3, r4, r5⟩ := rat_pos (p := p) h0
  exact ⟨r1, by unfold lowQ; omega, by unfold lowP; omega, by unfold lowP; omega, r2⟩
theorem low_self {p q : Int} (h : Nat.gcd p.natAbs q.natAbs = 1) : lowP p q = p ∧ lowQ p q = q := by
  unfold lowP lowQ
  rw [h]
  exact ⟨Int.ediv_one p, Int.ediv_one q⟩
end
end L

namespace L
open PySem PySem.Spec PyProof.Rows L2 Z M
open _root_.SX (S S_len S_inj)
section
variable {P : Program} {w : World} {K : PySem.W.Frag} {mg : Str → Option Value} {base : Heap}
def spNum : Sp := fun vs H Q _ => ∃ q : Addr, vs = [.ref q] ∧ PoolAt H q ∧ ∀ H' (i : Int), PX q H H' → i.natAbs ≤ 10 ^ 17 → Q (.int i) H'
theorem ok_number (T : Txt K mg) : FnOk P w K mg base CX0 2 T.f_number T.fd_number ["_law_pool_here"] spNum := by
  have G_take := ok_take (P := P) (w := w) (base := base) T
  refine T.F_number.ok sc_number (fun vs H Q E h => ?_) (fun cdv A outer s H vs Q E hr h => ?_)
  · obtain ⟨q, rfl, _⟩ := h
    rfl
  · obtain ⟨q, rfl, hp, h⟩ := h
    refine ⟨_, (pss_cons (ps_if (pt_cmpR op_eq (pe_call G_take (hr.mono (by first | decide | omega)) (by rfl) T.g_take T.F_take.kp T.b_take .nil pass0 (pa_cons (pv 0) (pa_cons pe_int pa_nil))) pe_int (nomark _)) (pss_one (ps_ret (pe_op op_sub (pe_call G_take (hr.mono (by first | decide | omega)) (by rfl) T.g_take T.F_take.kp T.b_take .nil pass0 (pa_cons (pv 0) (pa_cons pe_int pa_nil))) pe_int))) pss_nil)
 (pss_one (ps_ret (pe_op op_sub (pe_call G_take (hr.mono (by first | decide | omega)) (by rfl) T.g_take T.F_take.kp T.b_take .nil pass0 (pa_cons (pv 0) (pa_cons pe_int pa_nil))) pe_int)))), ?_⟩
    refine Z.w_start (σ' := [some (.ref q)]) rfl ?_
    walk_at "w"
    refine use_takeP hp (by decide) (by decide) fun r1 H1 px1 a1 b1 => ?_
    have hp1 := px1.2
    walk_at "w"
    by_cases e : r1 = 5
    · rw [if_pos (decide_eq_true e)]
      walk_at "w"
      refine use_takeP hp1 (by decide) (by decide) fun r2 H2 px2 a2 b2 => ?_
      walk_at "w"
      exact h H2 _ (px1.trans px2) (by omega)
    · rw [if_neg fun z => e (of_decide_eq_true z)]
      walk_at "w"
      refine use_takeP hp1 (by decide) (by decide) fun r2 H2 px2 a2 b2 => ?_
      walk_at "w"
      exact h H2 _ (px1.trans px2) (by omega)
theorem ok_large (T : Txt K mg) : FnOk P w K mg base CX0 3 T.f_large T.fd_large ["_law_pool_here"] spNum := by
  have G_take := ok_take (P := P) (w := w) (base := base) T
  have G_number := ok_number (P := P) (w := w) (base := base) T
  refine T.F_large.ok sc_large (fun vs H Q E h => ?_) (fun cdv A outer s H vs Q E hr h => ?_)
  · obtain ⟨q, rfl, _⟩ := h
    rfl
  · obtain ⟨q, rfl, hp, h⟩ := h
    refine ⟨_, (pss_cons (ps_if (pt_cmpR op_eq (pe_call G_take (hr.mono (by first | decide | omega)) (by rfl) T.g_take T.F_take.kp T.b_take .nil pass0 (pa_cons (pv 0) (pa_cons pe_int pa_nil))) pe_int (nomark _)) (pss_one (ps_ret (pe_op op_add (pe_op op_sub (pe_call G_take (hr.mono (by first | decide | omega)) (by rfl) T.g_take T.F_take.kp T.b_take .nil pass0 (pa_cons (pv 0) (pa_cons (pe_op op_sub (pe_op op_mul pe_int (pe_op op_pow pe_int pe_int)) pe_int) pa_nil))) (pe_op op_pow pe_int pe_int)) pe_int))) pss_nil)
 (pss_one (ps_ret (pe_call G_number (hr.mono (by first | decide | omega)) (by rfl) T.g_number T.F_number.kp T.b_number .nil pass0 (pa_cons (pv 0) pa_nil))))), ?_⟩
    refine Z.w_start (σ' := [some (.ref q)]) rfl ?_
    walk_at "w"
    refine use_takeP hp (by decide) (by decide) fun r1 H1 px1 a1 b1 => ?_
    have hp1 := px1.2
    walk_at "w"
    by_cases e : r1 = 7
    · rw [if_pos (decide_eq_true e)]
      walk_at "w"
      refine use_takeP hp1 (by decide) (by decide) fun r2 H2 px2 a2 b2 => ?_
      have b2' : r2 < 20000000000000000 := Int.lt_of_lt_of_le b2 (by decide)
      walk_at "w"
      have e16 : (10 : Int) ^ (16 : Int).toNat = 10000000000000000 := by decide
      refine h H2 _ (px1.trans px2) ?_
      rw [e16]
      omega
    · rw [if_neg fun z => e (of_decide_eq_true z)]
      walk_at "w"
      exact ⟨q, rfl, hp1, fun H2 i px2 hi => h H2 i (px1.trans px2) hi⟩
end
end L

namespace L
open PySem PySem.Spec PyProof.Rows L2 Z M
open _root_.SX (S S_len S_inj)
/-- a drawn kind: op, value, sorts that are wanted -/
def KRow (tl ot : List Nat) (rows : List WRow) (H : Hp) (a : Addr) : Prop := ∃ (op : List Nat) (val : V) (wl : Addr) (wanted : List (List Nat)) (kv : NestedKey) (so : List Nat), H a = some (.tup [vS op, val, .ref wl]) ∧ H wl = some (.lst (wanted.map vS)) ∧ ND.nk H kv val ∧ fitS rows op kv wanted so ∧ (∀ s ∈ wanted, s ∈ sort5 tl ot) ∧ wanted.length ≤ 14
theorem KRow.same {tl ot : List Nat} {rows : List WRow} {H H' : Hp} {a : Addr} (h : KRow tl ot rows H a) (s : Same H H') : KRow tl ot rows H' a := by
  obtain ⟨op, val, wl, wanted, kv, so, h1, h2, h3, h4⟩ := h
  exact ⟨op, val, wl, wanted, kv, so, s _ _ h1, s _ _ h2, ND.nk_keep (fun b ys e => s _ _ e) _ _ h3, h4⟩
section
variable {P : Program} {w : World} {K : PySem.W.Frag} {mg : Str → Option Value} {base : Heap}
theorem w_repS {l : Addr} {k : Int} {x : V} {H : Hp} {Q : VK} (h : H l = some (.lst [x])) (h1 : 0 ≤ k) (h2 : k ≤ 1000) (q : ∀ c H', Same H H' → H c = none → H' c = some (.lst (List.replicate k.toNat x)) → Q (.ref c) H') : rRep (.ref l) (.int k) H Q :=
  ⟨l, k, [x], rfl, rfl, h, by omega, by omega, Nat.le_trans (by show [x].length * k.toNat ≤ 1000; rw [List.length_singleton]; omega) (by decide), fun p hp => by
    have e : (List.replicate k.toNat [x]).flatten = List.replicate k.toNat x := by
      generalize k.toNat = n
      induction n with
      | zero => rfl
      | succ n ih => rw [List.replicate_succ, List.flatten_cons, ih, List.replicate_succ]; rfl
    rw [e]
    exact q p _ (same_of (Same.refl _) hp) hp upd_same⟩
theorem map_rep (n : Nat) (l : List Nat) : List.replicate n (vS l) = (List.replicate n l).map vS := (List.map_replicate ..).symm
def spKind : Sp := fun vs H Q _ => ∃ (q wb rb : Addr) (ra : List Addr) (tl ot : List Nat) (rows : List WRow), vs = [.ref q, .ref wb] ∧ PoolAt H q ∧ W3At H wb rb ra tl ot rows ∧ WOk tl ot rows ∧ ∀ H' p, PX q H H' → KRow tl ot rows H' p → Q (.ref p) H'
theorem ok_kind (T : Txt K mg) : FnOk P w K mg base CX0 4 T.f_kind T.fd_kind ["_law_pool_here", "_law_world_here"] spKind := by
  have G_take := ok_take (P := P) (w := w) (base := base) T
  have G_large := ok_large (P := P) (w := w) (base := base) T
  have G_lowest := ok_lowest (P := P) (w := w) (base := base) T
  refine T.F_kind.ok sc_kind (fun vs H Q E h => ?_) (fun cdv A outer s H vs Q E hr h => ?_)
  · obtain ⟨q, wb, rb, ra, tl, ot, rows, rfl, _⟩ := h
    rfl
  · obtain ⟨q, wb, rb, ra, tl, ot, rows, rfl, hp, wd, wo, h⟩ := h
    refine ⟨_, (pss_cons (ps_set (i := 2) sc_kind.nd rfl (.inl rfl) (pe_call G_take (hr.mono (by first | decide | omega)) (by rfl) T.g_take T.F_take.kp T.b_take .nil pass0 (pa_cons (pv 0) (pa_cons pe_int pa_nil))))
 (pss_cons (ps_set (i := 3) sc_kind.nd rfl (.inl rfl) (pe_ix ix_tup (pe_tup (pa_cons (pe_ix ix_list (pv 1) pe_int (fun _ _ => rfl)) (pa_cons (MT.pe_strS (l := [119, 104, 111, 108, 101]) (by decide +kernel)) (pa_cons (MT.pe_strS (l := [114, 97, 116, 105, 111]) (by decide +kernel)) (pa_cons (MT.pe_strS (l := [116, 114, 117, 116, 104]) (by decide +kernel)) (pa_cons (pe_ix ix_list (pv 1) pe_int (fun _ _ => rfl)) pa_nil)))))) (pe_call G_take (hr.mono (by first | decide | omega)) (by rfl) T.g_take T.F_take.kp T.b_take .nil pass0 (pa_cons (pv 0) (pa_cons pe_int pa_nil))) (fun _ _ => rfl)))
 (pss_cons (ps_set (i := 4) sc_kind.nd rfl (.inl rfl) (pe_call G_large (hr.mono (by first | decide | omega)) (by rfl) T.g_large T.F_large.kp T.b_large .nil pass0 (pa_cons (pv 0) pa_nil)))
 (pss_cons (ps_set (i := 5) sc_kind.nd rfl (.inl rfl) (pe_call G_lowest (hr.mono (by first | decide | omega)) (by rfl) T.g_lowest T.F_lowest.kp T.b_lowest .nil pass0 (pa_cons (pe_call G_large (hr.mono (by first | decide | omega)) (by rfl) T.g_large T.F_large.kp T.b_large .nil pass0 (pa_cons (pv 0) pa_nil)) (pa_cons (pe_op op_add pe_int (pe_call G_take (hr.mono (by first | decide | omega)) (by rfl) T.g_take T.F_take.kp T.b_take .nil pass0 (pa_cons (pv 0) (pa_cons pe_int pa_nil)))) pa_nil))))
 (pss_cons (ps_set (i := 6) sc_kind.nd rfl (.inl rfl) (pe_call G_take (hr.mono (by first | decide | omega)) (by rfl) T.g_take T.F_take.kp T.b_take .nil pass0 (pa_cons (pv 0) (pa_cons pe_int pa_nil))))
 (pss_cons (ps_if (pt_cmpR op_eq (pe_call G_take (hr.mono (by first | decide | omega)) (by rfl) T.g_take T.F_take.kp T.b_take .nil pass0 (pa_cons (pv 0) (pa_cons pe_int pa_nil))) pe_int (nomark _)) (pss_one (ps_set (i := 6) sc_kind.nd rfl (.inl rfl) (pe_call G_take (hr.mono (by first | decide | omega)) (by rfl) T.g_take T.F_take.kp T.b_take .nil pass0 (pa_cons (pv 0) (pa_cons pe_int pa_nil))))) pss_nil)
 (pss_cons (ps_set (i := 7) sc_kind.nd rfl (.inl rfl) (pe_call G_take (hr.mono (by first | decide | omega)) (by rfl) T.g_take T.F_take.kp T.b_take .nil pass0 (pa_cons (pv 0) (pa_cons pe_int pa_nil))))
 (pss_cons (ps_if (pt_cmpR op_lt (pv 7) pe_int (nomark _)) (pss_cons (ps_set (i := 8) sc_kind.nd rfl (.inl rfl) (pe_ix ix_list (pe_ix ix_list (pv 1) pe_int (fun _ _ => rfl)) (pe_call G_take (hr.mono (by first | decide | omega)) (by rfl) T.g_take T.F_take.kp T.b_take .nil pass0 (pa_cons (pv 0) (pa_cons (pe_callB call_len_seq (by rfl) T.m_len (by decide +kernel) (pa_cons (pe_ix ix_list (pv 1) pe_int (fun _ _ => rfl)) pa_nil)) pa_nil))) (fun _ _ => rfl)))
 (pss_one (ps_ret (pe_tup (pa_cons (MT.pe_strS (l := [99, 97, 108, 108]) (by decide +kernel)) (pa_cons (pe_ix ix_tup (pv 8) pe_int (fun _ _ => rfl)) (pa_cons (pe_callTy call_list_of (by rfl) T.m_list (by decide +kernel) (pa_cons (pe_ix ix_tup (pv 8) pe_int (fun _ _ => rfl)) pa_nil)) pa_nil))))))) pss_nil)
 (pss_cons (ps_set (i := 9) sc_kind.nd rfl (.inl rfl) (pe_lst (pa_cons (pe_tup (pa_cons (MT.pe_strS (l := [101, 113, 117, 97, 108]) (by decide +kernel)) (pa_cons pe_non (pa_cons (pe_lst (pa_cons (pv 3) (pa_cons (pv 3) pa_nil))) pa_nil)))) (pa_cons (pe_tup (pa_cons (MT.pe_strS (l := [105, 102]) (by decide +kernel)) (pa_cons pe_non (pa_cons (pe_lst (pa_cons (MT.pe_strS (l := [116, 114, 117, 116, 104]) (by decide +kernel)) (pa_cons (pv 3) (pa_cons (pv 3) pa_nil)))) pa_nil)))) (pa_cons (pe_tup (pa_cons (pe_ix ix_tup (pe_tup (pa_cons (MT.pe_strS (l := [116, 114, 117, 101]) (by decide +kernel)) (pa_cons (MT.pe_strS (l := [102, 97, 108, 115, 101]) (by decide +kernel)) pa_nil))) (pv 2) (fun _ _ => rfl)) (pa_cons pe_non (pa_cons (pe_lst pa_nil) pa_nil)))) (pa_cons (pe_tup (pa_cons (MT.pe_strS (l := [119, 104, 111, 108, 101]) (by decide +kernel)) (pa_cons (pv 4) (pa_cons (pe_lst pa_nil) pa_nil)))) (pa_cons (pe_tup (pa_cons (MT.pe_strS (l := [114, 97, 116, 105, 111]) (by decide +kernel)) (pa_cons (pv 5) (pa_cons (pe_lst pa_nil) pa_nil)))) (pa_cons (pe_tup (pa_cons (MT.pe_strS (l := [110, 111, 116]) (by decide +kernel)) (pa_cons pe_non (pa_cons (pe_lst (pa_cons (MT.pe_strS (l := [116, 114, 117, 116, 104]) (by decide +kernel)) pa_nil)) pa_nil)))) (pa_cons (pe_tup (pa_cons (pe_ix ix_tup (pe_tup (pa_cons (MT.pe_strS (l := [97, 110, 100]) (by decide +kernel)) (pa_cons (MT.pe_strS (l := [111, 114]) (by decide +kernel)) pa_nil))) (pv 2) (fun _ _ => rfl)) (pa_cons pe_non (pa_cons (pe_op op_rep (pe_lst (pa_cons (MT.pe_strS (l := [116, 114, 117, 116, 104]) (by decide +kernel)) pa_nil)) (pv 6)) pa_nil)))) (pa_cons (pe_tup (pa_cons (MT.pe_strS (l := [105, 109, 112, 108, 121]) (by decide +kernel)) (pa_cons pe_non (pa_cons (pe_lst (pa_cons (MT.pe_strS (l := [116, 114, 117, 116, 104]) (by decide +kernel)) (pa_cons (MT.pe_strS (l := [116, 114, 117, 116, 104]) (by decide +kernel)) pa_nil))) pa_nil)))) (pa_cons (pe_tup (pa_cons (MT.pe_strS (l := [100, 105, 115, 116, 105, 110, 99, 116]) (by decide +kernel)) (pa_cons pe_non (pa_cons (pe_op op_rep (pe_lst (pa_cons (pv 3) pa_nil)) (pe_op op_add pe_int (pv 6))) pa_nil)))) (pa_cons (pe_tup (pa_cons (pe_ix ix_tup (pe_tup (pa_cons (MT.pe_strS (l := [109, 111, 115, 116]) (by decide +kernel)) (pa_cons (MT.pe_strS (l := [108, 101, 115, 115]) (by decide +kernel)) pa_nil))) (pv 2) (fun _ _ => rfl)) (pa_cons pe_non (pa_cons (pe_lst (pa_cons (MT.pe_strS (l := [119, 104, 111, 108, 101]) (by decide +kernel)) (pa_cons (MT.pe_strS (l := [119, 104, 111, 108, 101]) (by decide +kernel)) pa_nil))) pa_nil)))) (pa_cons (pe_tup (pa_cons (pe_ix ix_tup (pe_tup (pa_cons (MT.pe_strS (l := [109, 111, 115, 116]) (by decide +kernel)) (pa_cons (MT.pe_strS (l := [108, 101, 115, 115]) (by decide +kernel)) pa_nil))) (pv 2) (fun _ _ => rfl)) (pa_cons pe_non (pa_cons (pe_lst (pa_cons (MT.pe_strS (l := [114, 97, 116, 105, 111]) (by decide +kernel)) (pa_cons (MT.pe_strS (l := [114, 97, 116, 105, 111]) (by decide +kernel)) pa_nil))) pa_nil)))) (pa_cons (pe_tup (pa_cons (MT.pe_strS (l := [115, 104, 105, 102, 116]) (by decide +kernel)) (pa_cons (pv 4) (pa_cons (pe_lst (pa_cons (MT.pe_strS (l := [119, 104, 111, 108, 101]) (by decide +kernel)) pa_nil)) pa_nil)))) (pa_cons (pe_tup (pa_cons (MT.pe_strS (l := [115, 99, 97, 108, 101]) (by decide +kernel)) (pa_cons (pv 5) (pa_cons (pe_lst (pa_cons (MT.pe_strS (l := [114, 97, 116, 105, 111]) (by decide +kernel)) pa_nil)) pa_nil)))) (pa_cons (pe_tup (pa_cons (MT.pe_strS (l := [115, 117, 109]) (by decide +kernel)) (pa_cons pe_non (pa_cons (pe_op op_rep (pe_lst (pa_cons (MT.pe_strS (l := [114, 97, 116, 105, 111]) (by decide +kernel)) pa_nil)) (pe_op op_add pe_int (pv 6))) pa_nil)))) pa_nil))))))))))))))))
 (pss_one (ps_ret (pe_ix ix_list (pv 9) (pe_op op_mod (pe_callTy call_int1 (by rfl) T.m_int (by decide +kernel) (pa_cons (pe_op op_sub (pv 7) pe_int) pa_nil)) pe_int) (fun _ _ => rfl))))))))))))), ?_⟩
    refine Z.w_start (σ' := [some (.ref q), some (.ref wb), none, none, none, none, none, none, none, none]) rfl ?_
    walk_at "w"
    refine use_takeP hp (by decide) (by decide) fun two H1 px1 two0 two1 => ?_
    have wd1 := wd.px hp px1
    have ew1 := wd1.w
    have hp1 := px1.2
    walk_at "w"
    rename_i t5 ht5
    have s1 : Same H1 (upd H1 t5 (.tup [vS tl, vS WHOLE, vS RATIO, vS TRUTH, vS ot])) := same_of (Same.refl _) ht5
    have e5 : upd H1 t5 (.tup [vS tl, vS WHOLE, vS RATIO, vS TRUTH, vS ot]) t5 = some (.tup [vS tl, vS WHOLE, vS RATIO, vS TRUTH, vS ot]) := upd_same
    refine use_takeP (hp1.same s1) (by decide) (by decide) fun r H2 px2 r0 r1 => ?_
    have et5 := px2.3 _ _ (tup_pool (hp1.same s1) e5) e5
    obtain ⟨k, rfl⟩ := Int.eq_ofNat_of_zero_le r0
    have hk : k < (sort5 tl ot).length := by show k < 5; omega
    have g : atI [vS tl, vS WHOLE, vS RATIO, vS TRUTH, vS ot] (k : Int) = some (vS (sort5 tl ot)[k]) := atI_nat (by
      show ((sort5 tl ot).map vS)[k]? = _
      rw [List.getElem?_map, List.getElem?_eq_getElem hk]
      rfl)
    have hs5 : (sort5 tl ot)[k] ∈ sort5 tl ot := List.getElem_mem hk
    generalize (sort5 tl ot)[k] = sr at g hs5
    refine Z.w_ixTH et5 g ?_
    have px02 : PX q H H2 := (px1.same s1).trans px2
    have hp2 := px02.2
    walk_at "w"
    refine ⟨q, rfl, hp2, fun H3 num px3 hnum => ?_⟩
    have px03 := px02.trans px3
    have hp3 := px03.2
    walk_at "w"
    refine ⟨q, rfl, hp3, fun H4 num2 px4 hnum2 => ?_⟩
    have px04 := px03.trans px4
    have hp4 := px04.2
    walk_at "w"
    refine use_takeP hp4 (by decide) (by decide) fun r4 H5 px5 r40 r41 => ?_
    have px05 := px04.trans px5
    walk_at "w"
    refine use_lowest (by omega) (Nat.lt_of_le_of_lt hnum2 (by decide)) (Nat.lt_of_le_of_lt (show (1 + r4).natAbs ≤ 5 by omega) (by decide)) fun fr hfr => ?_
    have s5 : Same H5 (upd H5 fr (.tup [.int (lowP num2 (1 + r4)), .int (lowQ num2 (1 + r4))])) := same_of (Same.refl _) hfr
    have efr : upd H5 fr (.tup [.int (lowP num2 (1 + r4)), .int (lowQ num2 (1 + r4))]) fr = some (.tup [.int (lowP num2 (1 + r4)), .int (lowQ num2 (1 + r4))]) := upd_same
    generalize lowP num2 (1 + r4) = fp at s5 efr ⊢
    generalize lowQ num2 (1 + r4) = fq at s5 efr ⊢
    have px06 := px05.same s5
    generalize upd H5 fr (.tup [.int fp, .int fq]) = H6 at s5 efr px06 ⊢
    have hp6 := px06.2
    walk_at "w"
    refine use_takeP hp6 (by decide) (by decide) fun many H7 px7 many0 many1 => ?_
    have px07 := px06.trans px7
    have efr7 := px7.3 _ _ (tup_pool hp6 efr) efr
    have hp7 := px07.2
    repeat' (first | with_reducible refine seqIf (fun σ' H8 => ∃ many : Int, σ' = [some (.ref q), some (.ref wb), some (.int two), some (vS sr), some (.int num), some (.ref fr), some (.int many), none, none, none] ∧ PX q H H8 ∧ H8 fr = some (.tup [.int fp, .int fq]) ∧ 0 ≤ many ∧ many ≤ 12) (fun Rk kk => ?_) ?_ | walk_at "w1")
    · refine use_takeP hp7 (by decide) (by decide) fun r8 H8 px8 r80 r81 => ?_
      have px08 := px07.trans px8
      have efr8 := px8.3 _ _ (tup_pool hp7 efr7) efr7
      have hp8 := px08.2
      walk_at "w"
      by_cases e11 : r8 = 11
      · rw [if_pos (decide_eq_true e11)]
        walk_at "w"
        refine use_takeP hp8 (by decide) (by decide) fun r9 H9 px9 r90 r91 => ?_
        walk_at "w"
        exact kk _ _ ⟨r9, rfl, px08.trans px9, px9.3 _ _ (tup_pool hp8 efr8) efr8, by omega, by omega⟩
      · rw [if_neg fun z => e11 (of_decide_eq_true z)]
        walk_at "w"
        exact kk _ _ ⟨many, rfl, px08, efr8, by omega, by omega⟩
    rintro _ H8 ⟨many, rfl, px08, efr8, m0, m12⟩
    have hp8 := px08.2
    walk_at "w"
    refine use_takeP hp8 (by decide) (by decide) fun pick H9 px9 pick0 pick1 => ?_
    have px09 := px08.trans px9
    have hp9 := px09.2
    have efr9 := px9.3 _ _ (tup_pool hp8 efr8) efr8
    have wd9 := wd.px hp px09
    have ew9 := wd9.w
    have er9 := wd9.r
    walk_at "w"
    by_cases hpk : pick < 4
    · rw [if_pos (decide_eq_true hpk)]
      walk_at "w"
      have hral : (ra.map V.ref).length = 21 := by rw [List.length_map, wd.len, wo.len]
      refine use_takeP hp9 (by rw [hral]; decide) (by rw [hral]; decide) fun r Hx px10 r0 r1 => ?_
      rw [hral] at r1
      have px010 := px09.trans px10
      have wdx := wd.px hp px010
      have ewx := wdx.w
      have erx := wdx.r
      obtain ⟨j, rfl⟩ := Int.eq_ofNat_of_zero_le r0
      have hj : j < ra.length := by rw [wd.len, wo.len]; omega
      have hja : ra[j]? = some ra[j] := List.getElem?_eq_getElem hj
      have hjr : rows[j]? = some (rows[j]'(by rw [← wd.len]; exact hj)) := List.getElem?_eq_getElem _
      generalize ra[j] = a at hja
      generalize rows[j]'(by rw [← wd.len]; exact hj) = row at hjr
      obtain ⟨b, eb1, eb2⟩ := wdx.at_ j a row hja hjr
      have hrm := List.mem_of_getElem? hjr
      have hat : atI (ra.map V.ref) (j : Int) = some (.ref a) := atI_nat (by rw [List.getElem?_map, hja]; rfl)
      refine Z.w_ixH erx hat ?_
      walk_at "w"
      intro l hl
      have sl : Same Hx (upd Hx l (.lst (row.args.map vS))) := same_of (Same.refl _) hl
      have el : upd Hx l (.lst (row.args.map vS)) l = some (.lst (row.args.map vS)) := upd_same
      generalize upd Hx l (.lst (row.args.map vS)) = Hy at sl el ⊢
      walk_at "w"
      rename_i p hpn
      have sp : Same Hy (upd Hy p (.tup [vS CALLo, vS row.name, .ref l])) := same_of (Same.refl _) hpn
      refine h _ p ((px010.same sl).same sp) ⟨CALLo, vS row.name, l, row.args, .text (S row.name), row.res, upd_same, sp _ _ el, by unfold ND.nk; rfl, .call row hrm, fun s hs => ((wo.ar row hrm).2 s hs).1, (wo.ar row hrm).1⟩
    · rw [if_neg fun z => hpk (of_decide_eq_true z)]
      have pick2 : ∀ (x y : List Nat), ∃ z, atI [vS x, vS y] two = some (vS z) ∧ (z = x ∨ z = y) := fun x y => by
        have : two = 0 ∨ two = 1 := by omega
        rcases this with e | e
        · rw [e]; exact ⟨x, rfl, .inl rfl⟩
        · rw [e]; exact ⟨y, rfl, .inr rfl⟩
      have nkF : ∀ H' : Hp, H' fr = some (.tup [.int fp, .int fq]) → ND.nk H' (.tup [.num fp, .num fq]) (.ref fr) := fun H' e => by
        unfold ND.nk
        refine ⟨fr, _, rfl, e, ?_⟩
        unfold ND.nks
        refine ⟨_, _, rfl, by unfold ND.nk; rfl, ?_⟩
        unfold ND.nks
        exact ⟨_, _, rfl, by unfold ND.nk; rfl, by unfold ND.nks; rfl⟩
      have nkN : ∀ H' : Hp, ND.nk H' .none .non := fun H' => by unfold ND.nk; rfl
      have nkI : ∀ H' : Hp, ND.nk H' (.num num) (.int num) := fun H' => by unfold ND.nk; rfl
      have s5a : WHOLE ∈ sort5 tl ot := by unfold sort5; simp
      have s5b : RATIO ∈ sort5 tl ot := by unfold sort5; simp
      have s5c : TRUTH ∈ sort5 tl ot := by unfold sort5; simp
      obtain ⟨tf, gtf, htf⟩ := pick2 TRUEc FALSEc
      obtain ⟨ao, gao, hao⟩ := pick2 ANDo ORo
      obtain ⟨ml, gml, hml⟩ := pick2 MOSTo LESSo
      walk_at "w"
      rename_i l1 g1 u1 k1 l2 g2 u2 k2 tt gtt l3 g3 u3 k3 l4 g4 u4 k4 l5 g5 u5 k5 l6 g6 u6 k6 tt2 gtt2 l7 g7
      refine w_repS (x := vS TRUTH) (by walk_at "hp") m0 (by omega) fun c7 Ha sma _ ec7 => ?_
      have sA : Same H9 Ha := Same.trans (by walk_at "same") sma
      have all2 : ∀ a ∈ [sr, sr], a ∈ sort5 tl ot := by simp [hs5]
      have len2 : ∀ x y : List Nat, [x, y].length ≤ 14 := fun _ _ => by show 2 ≤ 14; decide
      have K1 : KRow tl ot rows Ha u1 := ⟨EQo, .non, l1, [sr, sr], .none, TRUTH, sma _ _ (by walk_at "hp"), sma _ _ (by walk_at "hp"), nkN _, .eq sr, all2, len2 _ _⟩
      have K2 : KRow tl ot rows Ha u2 := ⟨IFo, .non, l2, [TRUTH, sr, sr], .none, sr, sma _ _ (by walk_at "hp"), sma _ _ (by walk_at "hp"), nkN _, .ite sr, by simp [hs5, s5c], by show 3 ≤ 14; decide⟩
      have K3 : KRow tl ot rows Ha u3 := ⟨tf, .non, l3, [], .none, TRUTH, sma _ _ (by walk_at "hp"), sma _ _ (by walk_at "hp"), nkN _, by rcases htf with e | e <;> rw [e]; exact .tr; exact .fa, by simp, by decide⟩
      have K4 : KRow tl ot rows Ha u4 := ⟨WHOLE, .int num, l4, [], .num num, WHOLE, sma _ _ (by walk_at "hp"), sma _ _ (by walk_at "hp"), nkI _, .whole num hnum, by simp, by decide⟩
      have efrA := sA _ _ efr9
      have K5 : KRow tl ot rows Ha u5 := ⟨RATIO, .ref fr, l5, [], .tup [.num fp, .num fq], RATIO, sma _ _ (by walk_at "hp"), sma _ _ (by walk_at "hp"), nkF _ efrA, .ratio fp fq, by simp, by decide⟩
      have K6 : KRow tl ot rows Ha u6 := ⟨NOTo, .non, l6, [TRUTH], .none, TRUTH, sma _ _ (by walk_at "hp"), sma _ _ (by walk_at "hp"), nkN _, .neg, by simp [s5c], by show 1 ≤ 14; decide⟩
      clear sma g1 k1 g2 k2 gtt g3 k3 g4 k4 g5 k5 g6 k6 gtt2 g7
      walk_at "w"
      rename_i u7 k7 l8 g8 u8 k8 l9 g9
      refine w_repS (x := vS sr) (by walk_at "hp") (by omega) (by omega) fun c9 Hb smb _ ec9 => ?_
      have sB : Same Ha Hb := Same.trans (by walk_at "same") smb
      have repT : ∀ (n : Nat) (x : List Nat), x ∈ sort5 tl ot → ∀ a ∈ List.replicate n x, a ∈ sort5 tl ot := fun n x hx a ha => by rw [(List.mem_replicate.mp ha).2]; exact hx
      have K7 : KRow tl ot rows Hb u7 := ⟨ao, .non, c7, List.replicate many.toNat TRUTH, .none, TRUTH, smb _ _ (by walk_at "hp"), by rw [← map_rep]; exact sB _ _ ec7, nkN _, by
        have q : ∀ x ∈ List.replicate many.toNat TRUTH, x = TRUTH := fun x hx => (List.mem_replicate.mp hx).2
        rcases hao with e | e <;> rw [e]
        · exact .and _ q
        · exact .or _ q, repT _ _ s5c, by rw [List.length_replicate]; omega⟩
      have K8 : KRow tl ot rows Hb u8 := ⟨IMPo, .non, l8, [TRUTH, TRUTH], .none, TRUTH, smb _ _ (by walk_at "hp"), smb _ _ (by walk_at "hp"), nkN _, .imp, by simp [s5c], len2 _ _⟩
      clear smb k7 g8 k8 g9
      walk_at "w"
      rename_i u9 k9 tt3 gtt3 l10 g10 u10 k10 tt4 gtt4 l11 g11 u11 k11 l12 g12 u12 k12 l13 g13 u13 k13 l14 g14
      refine w_repS (x := vS RATIO) (by walk_at "hp") (by omega) (by omega) fun c14 Hc smc _ ec14 => ?_
      have sC : Same Hb Hc := Same.trans (by walk_at "same") smc
      have K9 : KRow tl ot rows Hc u9 := ⟨DISo, .non, c9, List.replicate (2 + many).toNat sr, .none, TRUTH, smc _ _ (by walk_at "hp"), by rw [← map_rep]; exact sC _ _ ec9, nkN _, .dis sr _ (by rw [List.length_replicate]; omega) fun x hx => (List.mem_replicate.mp hx).2, repT _ _ hs5, by rw [List.length_replicate]; omega⟩
      have K10 : KRow tl ot rows Hc u10 := ⟨ml, .non, l10, [WHOLE, WHOLE], .none, TRUTH, smc _ _ (by walk_at "hp"), smc _ _ (by walk_at "hp"), nkN _, by
        rcases hml with e | e <;> rw [e]
        · exact .most WHOLE (by decide)
        · exact .less WHOLE (by decide), by simp [s5a], len2 _ _⟩
      have K11 : KRow tl ot rows Hc u11 := ⟨ml, .non, l11, [RATIO, RATIO], .none, TRUTH, smc _ _ (by walk_at "hp"), smc _ _ (by walk_at "hp"), nkN _, by
        rcases hml with e | e <;> rw [e]
        · exact .most RATIO (by decide)
        · exact .less RATIO (by decide), by simp [s5b], len2 _ _⟩
      have K12 : KRow tl ot rows Hc u12 := ⟨SHIo, .int num, l12, [WHOLE], .num num, WHOLE, smc _ _ (by walk_at "hp"), smc _ _ (by walk_at "hp"), nkI _, .shift num hnum, by simp [s5a], by show 1 ≤ 14; decide⟩
      have efrC := sC _ _ (sB _ _ efrA)
      have K13 : KRow tl ot rows Hc u13 := ⟨SCAo, .ref fr, l13, [RATIO], .tup [.num fp, .num fq], RATIO, smc _ _ (by walk_at "hp"), smc _ _ (by walk_at "hp"), nkF _ efrC, .scale fp fq, by simp [s5b], by show 1 ≤ 14; decide⟩
      clear smc k9 gtt3 g10 k10 gtt4 g11 k11 g12 k12 g13 k13 g14
      walk_at "w"
      rename_i u14 k14 L gL
      have s14 : Same Hc (upd Hc u14 (.tup [vS SUMo, .non, .ref c14])) := same_of (Same.refl _) k14
      have K14 : KRow tl ot rows (upd Hc u14 (.tup [vS SUMo, .non, .ref c14])) u14 := ⟨SUMo, .non, c14, List.replicate (2 + many).toNat RATIO, .none, RATIO, upd_same, by rw [← map_rep]; exact s14 _ _ ec14, nkN _, .sum _ (by rw [List.length_replicate]; omega) fun x hx => (List.mem_replicate.mp hx).2, repT _ _ s5b, by rw [List.length_replicate]; omega⟩
      have sL : ∀ v, Same (upd Hc u14 (.tup [vS SUMo, .non, .ref c14])) (upd (upd Hc u14 (.tup [vS SUMo, .non, .ref c14])) L v) := fun v => same_of (Same.refl _) gL
      have pxE : ∀ v, PX q H (upd (upd Hc u14 (.tup [vS SUMo, .non, .ref c14])) L v) := fun v => (((((px09.same sA).same sB).same sC).same s14).same (sL v))
      have mem : ∀ v, ∀ a ∈ [u1, u2, u3, u4, u5, u6, u7, u8, u9, u10, u11, u12, u13, u14], KRow tl ot rows (upd (upd Hc u14 (.tup [vS SUMo, .non, .ref c14])) L v) a := fun v a ha => by
        have sAC := (sB.trans sC).trans (s14.trans (sL v))
        have sBC := sC.trans (s14.trans (sL v))
        have sCC := s14.trans (sL v)
        simp only [List.mem_cons, List.not_mem_nil, or_false] at ha
        rcases ha with rfl | rfl | rfl | rfl | rfl | rfl | rfl | rfl | rfl | rfl | rfl | rfl | rfl | rfl
        · exact K1.same sAC
        · exact K2.same sAC
        · exact K3.same sAC
        · exact K4.same sAC
        · exact K5.same sAC
        · exact K6.same sAC
        · exact K7.same sBC
        · exact K8.same sBC
        · exact K9.same sCC
        · exact K10.same sCC
        · exact K11.same sCC
        · exact K12.same sCC
        · exact K13.same sCC
        · exact K14.same (sL v)
      obtain ⟨j, hj⟩ := Int.eq_ofNat_of_zero_le (Int.emod_nonneg (pick - 4) (show (14 : Int) ≠ 0 by decide))
      have hj14 : j < 14 := by
        have := Int.emod_lt_of_pos (pick - 4) (show (0 : Int) < 14 by decide)
        omega
      have hjl : j < [u1, u2, u3, u4, u5, u6, u7, u8, u9, u10, u11, u12, u13, u14].length := hj14
      have hat : atI [V.ref u1, .ref u2, .ref u3, .ref u4, .ref u5, .ref u6, .ref u7, .ref u8, .ref u9, .ref u10, .ref u11, .ref u12, .ref u13, .ref u14] ((pick - 4) % 14) = some (.ref [u1, u2, u3, u4, u5, u6, u7, u8, u9, u10, u11, u12, u13, u14][j]) := by
        rw [hj]
        exact atI_nat (by
          show ([u1, u2, u3, u4, u5, u6, u7, u8, u9, u10, u11, u12, u13, u14].map V.ref)[j]? = _
          rw [List.getElem?_map, List.getElem?_eq_getElem hjl]
          rfl)
      refine Z.w_ixH upd_same hat ?_
      exact h _ _ (pxE _) (mem _ _ (List.getElem_mem hjl))
end
end L

namespace L
open PySem PySem.Spec PyProof.Rows L2 Z M
open _root_.SX (S S_len S_inj)
/-- a making: op, value, parts -/
def MkRow (rows : List WRow) (gs : List GRow) (H : Hp) (p : Addr) : Prop := ∃ (op : List Nat) (val : V) (pl : Addr) (kv : NestedKey) (ns : List Int) (so : List Nat), H p = some (.tup [vS op, val, .ref pl]) ∧ H pl = some (.lst (ns.map V.int)) ∧ ND.nk H kv val ∧ Fits rows gs op kv ns so ∧ ns.length ≤ 14
theorem MkRow.same {rows : List WRow} {gs : List GRow} {H H' : Hp} {a : Addr} (h : MkRow rows gs H a) (s : Same H H') : MkRow rows gs H' a := by
  obtain ⟨op, val, wl, kv, ns, so, h1, h2, h3, h4⟩ := h
  exact ⟨op, val, wl, kv, ns, so, s _ _ h1, s _ _ h2, ND.nk_keep (fun b ys e => s _ _ e) _ _ h3, h4⟩
section
variable {P : Program} {w : World} {K : PySem.W.Frag} {mg : Str → Option Value} {base : Heap}
theorem ts_pool {q ts : Addr} {gs : List GRow} {H : Hp} (hp : PoolAt H q) (e : H ts = some (.lst (gs.map fun g => vS g.so))) : ts ≠ q := ne_pool hp e fun c k b s z => by
  cases gs with
  | nil => cases z
  | cons g gs =>
    rw [List.map_cons] at z
    injection z with z _
    cases z
def spSome : Sp := fun vs H Q _ => ∃ (q ts : Addr) (gs : List GRow) (l : List Nat), vs = [.ref q, .ref ts, .str (S l)] ∧ PoolAt H q ∧ H ts = some (.lst (gs.map fun g => vS g.so)) ∧ gs.length ≤ 500 ∧
  ∀ H' (n : Int), PX q H H' → (n = 0 ∨ (ValG gs n ∧ soG gs n = l)) → Q (.int n) H'
theorem ok_some (T : Txt K mg) : FnOk P w K mg base CX0 2 T.f_some T.fd_some ["_law_pool_here", "_law_sorts", "_law_sort"] spSome := by
  have G_take := ok_take (P := P) (w := w) (base := base) T
  refine T.F_some.ok sc_some (fun vs H Q E h => ?_) (fun cdv A outer s H vs Q E hr h => ?_)
  · obtain ⟨q, ts, gs, l, rfl, _⟩ := h
    rfl
  · obtain ⟨q, ts, gs, l, rfl, hp, ets, hgl, h⟩ := h
    refine ⟨_, (pss_cons (ps_setLc (i := 3) (own := [("_law_k", 4)]) (g := gName 4) (by rfl) sc_some.nd rfl rfl (sw_true rfl rfl rfl (by decide +kernel)) (pi_range1 (by rfl) T.m_range (pa_cons (pe_callB call_len_seq (by rfl) T.m_len (by decide +kernel) (pa_cons (pv 1) pa_nil)) pa_nil)) (blkOk_by (own := [("_law_k", 4)]) (N := N_some) (sc := defScope s_some) (by decide +kernel)) (fun _ _ _ _ _ => pg_name (i := 4) sc_some.nd rfl (Or.inl rfl)) (fun _ _ _ _ _ => pts_one (pt_cmpR op_eq (pe_ix (show IxR _ (rIxL K) from ix_list) (pv 1) (pv 4) (fun _ _ => rfl)) (pv 2) (nomark _))) (fun _ _ _ _ _ => (pe_op op_add (pv 4) pe_int)))
 (pss_cons (ps_if (pt_cmpR op_eq (pe_callB call_len_seq (by rfl) T.m_len (by decide +kernel) (pa_cons (pv 3) pa_nil)) pe_int (nomark _)) (pss_one (ps_ret pe_int)) pss_nil)
 (pss_one (ps_ret (pe_ix ix_list (pv 3) (pe_call G_take (hr.mono (by first | decide | omega)) (by rfl) T.g_take T.F_take.kp T.b_take .nil pass0 (pa_cons (pv 0) (pa_cons (pe_callB call_len_seq (by rfl) T.m_len (by decide +kernel) (pa_cons (pv 3) pa_nil)) pa_nil))) (fun _ _ => rfl)))))), ?_⟩
    refine Z.w_start (σ' := [some (.ref q), some (.ref ts), some (.str (S l)), none, none]) rfl ?_
    have hln : (gs.map fun g => vS g.so).length = gs.length := List.length_map ..
    walk_at "w"
    refine ⟨by omega, by omega, fun D hD => ?_⟩
    refine lc_range (lo := 0) (n := _) (fun i H' => Same H H' ∧ ∃ ns : List Int, H' D = some (.lst (ns.map V.int)) ∧ ns.length ≤ i ∧ ∀ m ∈ ns, ValG gs m ∧ soG gs m = l) ⟨same_of (Same.refl _) hD, [], upd_same, Nat.le_refl _, fun m hm => by cases hm⟩ ?_ ?_
    · rintro i H' hi ⟨sm, ns, eD, hnl, h1⟩
      have hig : i < gs.length := by omega
      have eg : gs[i]? = some gs[i] := List.getElem?_eq_getElem hig
      generalize gs[i] = g at eg
      have e0 : (0 : Int) + (i : Int) = (i : Int) := Int.zero_add _
      rw [e0]
      refine Z.w_gname (σ' := [some (.ref q), some (.ref ts), some (.str (S l)), none, some (.int (i : Int))]) rfl ⟨rfl, ?_⟩
      have ets' := sm _ _ ets
      have hat : atI (gs.map fun g => vS g.so) (i : Int) = some (vS g.so) := atI_nat (by rw [List.getElem?_map, eg]; rfl)
      walk_at "w"
      by_cases hs : g.so = l
      · rw [if_pos (decide_eq_true hs)]
        walk_at "w"
        refine ⟨_, eD, by rw [List.length_map]; exact Nat.lt_of_le_of_lt (show ns.length ≤ 500 by omega) (by decide), same_mut sm hD, ns ++ [(i : Int) + 1], by rw [upd_same, List.map_append]; rfl, by rw [List.length_append]; exact Nat.succ_le_succ hnl, fun m hm => ?_⟩
        rcases List.mem_append.mp hm with hm | hm
        · exact h1 m hm
        · rw [List.mem_singleton.mp hm]
          refine ⟨⟨by omega, by omega⟩, ?_⟩
          unfold soG
          rw [show ((i : Int) + 1 - 1).toNat = i by omega, eg]
          exact hs
      · rw [if_neg fun z => hs (of_decide_eq_true z)]
        exact ⟨sm, ns, eD, by omega, h1⟩
    · rintro H' ⟨sm, ns, eD, hnl, h1⟩
      have hnl2 : ns.length ≤ 500 := by omega
      have hlm : (ns.map V.int).length = ns.length := List.length_map ..
      have hp1 := hp.same sm
      have pxs : PX q H H' := (PX.refl hp).same sm
      walk_at "w"
      by_cases hn0 : ns.length = 0
      · rw [if_pos (decide_eq_true (by rw [hlm]; omega))]
        walk_at "w"
        exact h H' 0 pxs (.inl rfl)
      · rw [if_neg fun z => hn0 (by have := of_decide_eq_true z; rw [hlm] at this; omega)]
        walk_at "w"
        refine use_takeP hp1 (by rw [hlm]; omega) (by rw [hlm]; omega) fun r H2 px2 r0 r1 => ?_
        rw [hlm] at r1
        obtain ⟨k, rfl⟩ := Int.eq_ofNat_of_zero_le r0
        have hk : k < ns.length := by omega
        have ek : ns[k]? = some ns[k] := List.getElem?_eq_getElem hk
        have q1 := h1 _ (List.getElem_mem hk)
        have nDq : D ≠ q := fun z => by
          obtain ⟨o3, h3, _⟩ := hp
          rw [z, h3] at hD
          cases hD
        refine Z.w_ixH (px2.3 _ _ nDq eD) (atI_nat (by rw [List.getElem?_map, ek]; rfl)) ?_
        exact h H2 _ (pxs.trans px2) (.inr q1)
end
end L

namespace L
open PySem PySem.Spec PyProof.Rows L2 Z M
open _root_.SX (S S_len S_inj)
theorem idx_spec : ∀ (ns : List Int) (x : Int), x ∈ ns → ns[ns.idxOf x]? = some x ∧ ∀ m z, m < ns.idxOf x → ns[m]? = some z → z ≠ x
  | [], x, h => absurd h (by simp)
  | n :: r, x, h => by
    rw [List.idxOf_cons]
    by_cases e : n = x
    · subst e
      simp
    · have hb : (n == x) = false := by simp [e]
      rw [hb]
      have hm : x ∈ r := by
        rcases List.mem_cons.mp h with a | a
        · exact absurd a.symm e
        · exact a
      obtain ⟨h1, h2⟩ := idx_spec r x hm
      refine ⟨by simpa using h1, fun m z hm2 hz => ?_⟩
      cases m with
      | zero =>
        have : n = z := by simpa using hz
        rw [← this]
        exact e
      | succ m => exact h2 m z (by simpa using hm2) (by simpa using hz)
section
variable {K : PySem.W.Frag} {H : Hp} {Q : VK}
theorem w_indexI {a : Addr} {ns : List Int} {x : Int} (hs : SqL K H a (ns.map V.int)) (hx : x ∈ ns) (q : Q (.int (ns.idxOf x : Nat)) H) : rIndex K (.ref a) [.int x] H Q := by
  obtain ⟨h1, h2⟩ := idx_spec ns x hx
  refine ⟨a, _, _, ns.idxOf x, .int x, rfl, rfl, hs, rfl, flat_ints ns, by rw [List.getElem?_map, h1]; rfl, by simp [eqV], fun m z' hm hz => ?_, q⟩
  rw [List.getElem?_map] at hz
  cases e : ns[m]? with
  | none => rw [e] at hz; cases hz
  | some y =>
    rw [e] at hz
    obtain rfl : V.int y = z' := Option.some.inj hz
    simp [eqV, h2 m y hm e]
theorem w_ninI {p : Addr} {x : Int} {ls : List Int} (h : SqL K H p (ls.map V.int)) (q : Q (.bl (!decide (x ∈ ls))) H) : rIn K true (.int x) (.ref p) H Q := w_opin (.inl h) rfl (flat_ints ls) (by rw [inV_int]; exact q)
end
section
variable {K : PySem.W.Frag} {H : Hp}
theorem eq_strs0 {a b : Addr} {ls : List (List Nat)} {Q : VK} (ho : ∀ l ∈ ls, PyData.canLay0 (.str (S l)) = true) (ha : SqT K H a (ls.map vS)) (hb : SqT K H b []) (q : Q (.bl (decide (ls = []))) H) : rEqD K (.ref a) (.ref b) H Q :=
  ⟨.tuple _, .tuple [], .tup ha (dp_strs ls), .tup hb .nil, shp_strs ls ho, by decide, by
    rw [show PyData.eqv (.tuple (ls.map fun l => PyData.str (S l))) (.tuple []) = decide (ls = []) from by
      rw [PyData.eqv]
      cases ls with
      | nil => rfl
      | cons l ls => rw [decide_eq_false (by simp)]; rfl]
    exact q⟩
end
def PartsOk (gs : List GRow) (ns : List Int) (wanted : List (List Nat)) : Prop := ns.length = wanted.length ∧ ∀ (j : Nat) (n : Int) (a : List Nat), ns[j]? = some n → wanted[j]? = some a → n = 0 ∨ (ValG gs n ∧ soG gs n = a)
theorem PartsOk.fit {gs : List GRow} {ns : List Int} {wanted : List (List Nat)} (h : PartsOk gs ns wanted) (h0 : (0 : Int) ∉ ns) : (∀ n ∈ ns, ValG gs n) ∧ ns.map (soG gs) = wanted := by
  obtain ⟨h1, h2⟩ := h
  have key : ∀ (j : Nat) (n : Int) (a : List Nat), ns[j]? = some n → wanted[j]? = some a → ValG gs n ∧ soG gs n = a := fun j n a e1 e2 => (h2 j n a e1 e2).resolve_left fun z => h0 (z ▸ List.mem_of_getElem? e1)
  refine ⟨fun n hn => ?_, List.ext_getElem? fun j => ?_⟩
  · obtain ⟨j, hj⟩ := List.mem_iff_getElem?.mp hn
    have hl := (List.getElem?_eq_some_iff.mp hj).1
    exact (key j n _ hj (List.getElem?_eq_getElem (by omega))).1
  · rw [List.getElem?_map]
    by_cases hj : j < ns.length
    · have e1 : ns[j]? = some ns[j] := List.getElem?_eq_getElem hj
      have e2 : wanted[j]? = some (wanted[j]'(by omega)) := List.getElem?_eq_getElem _
      rw [e1, e2]
      show some (soG gs ns[j]) = _
      rw [(key j _ _ e1 e2).2]
    · rw [List.getElem?_eq_none (by omega), List.getElem?_eq_none (by omega)]
      rfl
theorem PartsOk.set {gs : List GRow} {ns : List Int} {wanted : List (List Nat)} {n : Int} {a : List Nat} (h : PartsOk gs ns wanted) (i : Nat) (h1 : ns[i]? = some n) (h2 : wanted[i]? = some a) (h3 : wanted[0]? = some a) : PartsOk gs (ns.set 0 n) wanted := by
  refine ⟨by rw [List.length_set]; exact h.1, fun j m b e1 e2 => ?_⟩
  by_cases hj : j = 0
  · subst hj
    have hl : 0 < ns.length := by
      have := (List.getElem?_eq_some_iff.mp e1).1
      rwa [List.length_set] at this
    rw [List.getElem?_set_self hl] at e1
    obtain rfl := Option.some.inj e1
    rw [h3] at e2
    obtain rfl := Option.some.inj e2
    exact h.2 i _ _ h1 h2
  · rw [List.getElem?_set_ne (by omega)] at e1
    exact h.2 j m b e1 e2
section
variable {P : Program} {w : World} {K : PySem.W.Frag} {mg : Str → Option Value} {base : Heap}
def spMaking : Sp := fun vs H Q _ => ∃ (q wb rb ts : Addr) (ra : List Addr) (tl ot : List Nat) (rows : List WRow) (gs : List GRow), vs = [.ref q, .ref wb, .ref ts] ∧ PoolAt H q ∧ W3At H wb rb ra tl ot rows ∧ WOk tl ot rows ∧ H ts = some (.lst (gs.map fun g => vS g.so)) ∧ gs.length ≤ 500 ∧ ∀ H' p, PX q H H' → MkRow rows gs H' p → Q (.ref p) H'
theorem ok_making (T : Txt K mg) : FnOk P w K mg base CX0 5 T.f_making T.fd_making ["_law_pool_here", "_law_world_here", "_law_sorts"] spMaking := by
  have G_take := ok_take (P := P) (w := w) (base := base) T
  have G_kind := ok_kind (P := P) (w := w) (base := base) T
  have G_some := ok_some (P := P) (w := w) (base := base) T
  refine T.F_making.ok sc_making (fun vs H Q E h => ?_) (fun cdv A outer s H vs Q E hr h => ?_)
  · obtain ⟨q, wb, rb, ts, ra, tl, ot, rows, gs, rfl, _⟩ := h
    rfl
  · obtain ⟨q, wb, rb, ts, ra, tl, ot, rows, gs, rfl, hp, wd, wo, ets, hgl, h⟩ := h
    have ntq := ts_pool hp ets
    refine ⟨_, (pss_cons (ps_asg (pe_call G_kind (hr.mono (by first | decide | omega)) (by rfl) T.g_kind T.F_kind.kp T.b_kind .nil pass0 (pa_cons (pv 0) (pa_cons (pv 1) pa_nil))) (pg_tup (by rfl) (pgs_cons (pg_name (i := 3) sc_making.nd rfl (.inl rfl)) (pgs_cons (pg_name (i := 4) sc_making.nd rfl (.inl rfl)) (pgs_cons (pg_name (i := 5) sc_making.nd rfl (.inl rfl)) pgs_nil)))))
 (pss_cons (ps_setLc (i := 6) (own := [("_law_sort", 7)]) (g := gName 7) (tt := tYes) (by rfl) sc_making.nd rfl rfl (sw_true rfl rfl rfl (by decide +kernel)) (pi_list (pv 5)) (blkOk_by (own := [("_law_sort", 7)]) (N := N_making) (sc := defScope s_making) (by decide +kernel)) (fun _ _ _ _ _ => pg_name (i := 7) sc_making.nd rfl (Or.inl rfl)) (fun _ _ _ _ _ => pts_nil) (fun _ _ _ _ _ => (pe_call G_some (hr.mono (by first | decide | omega)) (by rfl) T.g_some T.F_some.kp T.b_some .nil pass0 (pa_cons (pv 0) (pa_cons (pv 2) (pa_cons (pv 7) pa_nil))))))
 (pss_cons (ps_if (PW.pt (pw_and (pt_cmpR op_eq (pe_call G_take (hr.mono (by first | decide | omega)) (by rfl) T.g_take T.F_take.kp T.b_take .nil pass0 (pa_cons (pv 0) (pa_cons pe_int pa_nil))) pe_int (nomark _)) (pw_and (pt_cmpR op_gt (pe_callB call_len_seq (by rfl) T.m_len (by decide +kernel) (pa_cons (pv 6) pa_nil)) pe_int (nomark _)) (pw_and1 (pt_cmpR op_eq (pe_ix ix_list (pv 5) pe_int (fun _ _ => rfl)) (pe_ix ix_list (pv 5) (pe_op op_sub (pe_callB call_len_seq (by rfl) T.m_len (by decide +kernel) (pa_cons (pv 5) pa_nil)) pe_int) (fun _ _ => rfl)) (nomark _)))))) (pss_one (ps_asg (pe_ix ix_list (pv 6) (pe_op op_sub (pe_callB call_len_seq (by rfl) T.m_len (by decide +kernel) (pa_cons (pv 6) pa_nil)) pe_int) (fun _ _ => rfl)) (pg_sub (pv 6) pe_int set_list))) pss_nil)
 (pss_cons (ps_if (pt_cmpR op_notIn_seq pe_int (pv 6) rfl) (pss_one (ps_ret (pe_tup (pa_cons (pv 3) (pa_cons (pv 4) (pa_cons (pv 6) pa_nil)))))) pss_nil)
 (pss_cons (ps_set (i := 8) sc_making.nd rfl (.inr rfl) (pe_ix ix_list (pv 5) (pe_bm PySem.F.plainAttrs_list PySem.F.slot_list_index PySem.F.type_list_index mt_index (pv 6) (pa_cons pe_int pa_nil)) (fun _ _ => rfl)))
 (pss_cons (ps_setLc (i := 9) (own := [("_law_row", 10)]) (g := gName 10) (by rfl) sc_making.nd rfl rfl (sw_true rfl rfl rfl (by decide +kernel)) (pi_list (pe_ix ix_list (pv 1) pe_int (fun _ _ => rfl))) (blkOk_by (own := [("_law_row", 10)]) (N := N_making) (sc := defScope s_making) (by decide +kernel)) (fun _ _ _ _ _ => pg_name (i := 10) sc_making.nd rfl (Or.inl rfl)) (fun _ _ _ _ _ => pts_one (PW.pt (pw_and (pt_cmpR (show OpR _ _ (rEqD K) from op_eqD hr.units) (pe_ix (show IxR _ (rIxT K) from ix_tup) (pv 10) pe_int (fun _ _ => rfl)) (pe_tup pa_nil) (nomark _)) (pw_and1 (pt_cmpR op_eq (pe_ix (show IxR _ (rIxT K) from ix_tup) (pv 10) pe_int (fun _ _ => rfl)) (pv 8) (nomark _)))))) (fun _ _ _ _ _ => (pe_ix (show IxR _ (rIxT K) from ix_tup) (pv 10) pe_int (fun _ _ => rfl))))
 (pss_one (ps_ret (pe_tup (pa_cons (MT.pe_strS (l := [99, 97, 108, 108]) (by decide +kernel)) (pa_cons (pe_ix ix_list (pv 9) (pe_call G_take (hr.mono (by first | decide | omega)) (by rfl) T.g_take T.F_take.kp T.b_take .nil pass0 (pa_cons (pv 0) (pa_cons pe_int pa_nil))) (fun _ _ => rfl)) (pa_cons (pe_lst pa_nil) pa_nil)))))))))))), ?_⟩
    refine Z.w_start (σ' := [some (.ref q), some (.ref wb), some (.ref ts), none, none, none, none, none, none, none, none]) rfl ?_
    walk_at "w"
    refine ⟨q, wb, rb, ra, tl, ot, rows, rfl, hp, wd, wo, fun H1 p px1 ⟨op, val, wl, wanted, kv, so, ep, ewl, hkv, hfit, hsrt, hwl⟩ => ?_⟩
    have hp1 := px1.2
    walk_at "w"
    have nwq : wl ≠ q := ne_pool hp1 ewl fun c k b s z => by
      cases wanted with
      | nil => cases z
      | cons g gs =>
        rw [List.map_cons] at z
        injection z with z _
        cases z
    intro D hD
    have hD0 : H D = none := fresh_px px1 hp hD
    have nDq : D ≠ q := fun z => by
      obtain ⟨o3, h3, _⟩ := hp1
      rw [z, h3] at hD
      cases hD
    refine lc_list (xs := wanted.map vS) (fun i H' => PX q H1 H' ∧ ∃ ns : List Int, H' D = some (.lst (ns.map V.int)) ∧ PartsOk gs ns (wanted.take i)) ⟨(PX.refl hp1).new hD, [], upd_same, rfl, fun j n a e => by simp at e⟩ (fun i H' _ q => .inl (.inl (q.1.3 _ _ nwq ewl))) ?_ ?_
    · rintro i x H' hx ⟨px, ns, eD, hn1, hn2⟩
      rw [List.getElem?_map] at hx
      obtain ⟨a, ha, rfl⟩ := Option.map_eq_some_iff.mp hx
      have hi := (List.getElem?_eq_some_iff.mp ha).1
      refine Z.w_gname (σ' := [some (.ref q), some (.ref wb), some (.ref ts), some (vS op), some val, some (.ref wl), none, some (vS a), none, none, none]) rfl ⟨rfl, ?_⟩
      walk_at "w"
      refine ⟨q, ts, gs, a, rfl, px.2, px.3 _ _ ntq (px1.3 _ _ ntq ets), hgl, fun H3 n px3 hn => ?_⟩
      rw [List.length_take, Nat.min_eq_left (Nat.le_of_lt hi)] at hn1
      refine ⟨_, px3.3 _ _ nDq eD, ?_, (px.trans px3).mutF hp1 hD, ns ++ [n], by rw [upd_same, List.map_append]; rfl, ?_, fun j m b e1 e2 => ?_⟩
      · rw [List.length_map, hn1]
        exact Nat.lt_of_le_of_lt (show i ≤ 14 by omega) (by decide)
      · rw [List.length_append, hn1, List.length_take, Nat.min_eq_left hi]
        rfl
      · rw [List.take_add_one, ha] at e2
        by_cases hj : j < i
        · rw [List.getElem?_append_left (by omega)] at e1
          rw [List.getElem?_append_left (by rw [List.length_take]; omega)] at e2
          exact hn2 j m b e1 e2
        · have hl := (List.getElem?_eq_some_iff.mp e1).1
          rw [List.length_append, List.length_singleton] at hl
          obtain rfl : j = i := by omega
          rw [List.getElem?_append_right (by omega), hn1, Nat.sub_self] at e1
          rw [List.getElem?_append_right (by rw [List.length_take]; omega), List.length_take, Nat.min_eq_left (Nat.le_of_lt hi), Nat.sub_self] at e2
          obtain rfl := Option.some.inj e1
          obtain rfl := Option.some.inj e2
          exact hn
    rintro H2 ⟨px2, ns, eD, hn⟩
    rw [List.length_map, List.take_length] at hn
    have px02 := px1.trans px2
    have hp2 := px02.2
    have ewl2 := px2.3 _ _ nwq ewl
    have hnl : (ns.map V.int).length = wanted.length := by rw [List.length_map]; exact hn.1
    have hwl1 : (wanted.map vS).length = wanted.length := List.length_map ..
    have hnl1 : ns.length = wanted.length := hn.1
    repeat' (first | with_reducible refine seqIf (fun σ' H3 => σ' = [some (.ref q), some (.ref wb), some (.ref ts), some (vS op), some val, some (.ref wl), some (.ref D), none, none, none, none] ∧ PX q H H3 ∧ H3 wl = some (.lst (wanted.map vS)) ∧ ND.nk H3 kv val ∧ ∃ ns : List Int, H3 D = some (.lst (ns.map V.int)) ∧ PartsOk gs ns wanted) (fun Rk kk => ?_) ?_ | walk_at "w1")
    · have hkv2 : ND.nk H2 kv val := ND.nk_keep (fun b ys e => px2.3 _ _ (tup_pool hp1 e) e) _ _ hkv
      refine use_takeP hp2 (by decide) (by decide) fun r H3 px3 r0 r1 => ?_
      have px03 := px02.trans px3
      have eD3 := px3.3 _ _ nDq eD
      have ewl3 := px3.3 _ _ nwq ewl2
      have hkv3 : ND.nk H3 kv val := ND.nk_keep (fun b ys e => px3.3 _ _ (tup_pool hp2 e) e) _ _ hkv2
      have stay := kk [some (.ref q), some (.ref wb), some (.ref ts), some (vS op), some val, some (.ref wl), some (.ref D), none, none, none, none] H3 ⟨rfl, px03, ewl3, hkv3, ns, eD3, hn⟩
      walk_at "w"
      by_cases e3 : r = 3
      · rw [if_pos (decide_eq_true e3)]
        walk_at "w"
        by_cases e4 : ns.length > 1
        · rw [if_pos (decide_eq_true (show ((ns.map V.int).length : Int) > 1 by rw [List.length_map]; omega))]
          obtain ⟨a0, ha0⟩ : ∃ a, wanted[0]? = some a := ⟨_, List.getElem?_eq_getElem (by omega)⟩
          obtain ⟨a1, ha1⟩ : ∃ a, wanted[wanted.length - 1]? = some a := ⟨_, List.getElem?_eq_getElem (by omega)⟩
          obtain ⟨n1, hn1⟩ : ∃ a, ns[wanted.length - 1]? = some a := ⟨_, List.getElem?_eq_getElem (by omega)⟩
          have hat0 : atI (wanted.map vS) (0 : Int) = some (vS a0) := atI_nat (j := 0) (by rw [List.getElem?_map, ha0]; rfl)
          have hat1 : atI (wanted.map vS) (((wanted.map vS).length : Int) - 1) = some (vS a1) := by
            rw [hwl1, show ((wanted.length : Int) - 1) = ((wanted.length - 1 : Nat) : Int) by omega]
            exact atI_nat (by rw [List.getElem?_map, ha1]; rfl)
          have hat2 : atI (ns.map V.int) (((ns.map V.int).length : Int) - 1) = some (.int n1) := by
            rw [hnl, show ((wanted.length : Int) - 1) = ((wanted.length - 1 : Nat) : Int) by omega]
            exact atI_nat (by rw [List.getElem?_map, hn1]; rfl)
          walk_at "w"
          by_cases e5 : a0 = a1
          · rw [if_pos (decide_eq_true e5)]
            walk_at "w"
            refine Z.w_setL eD3 (j := 0) (by rw [hnl]; unfold ixN; rw [if_pos (by decide), if_pos (by omega)]; rfl) ?_
            refine kk _ _ ⟨rfl, px03.mutF hp hD0, by rw [upd_ne (fun z => by rw [z] at ewl; rw [hD] at ewl; cases ewl)]; exact ewl3, ?_, ns.set 0 n1, by rw [upd_same, List.map_set], hn.set _ hn1 ha1 (by rw [e5] at ha0; exact ha0)⟩
            exact ND.nk_keep (fun b ys e => by rw [upd_ne (fun z => by rw [z, eD3] at e; cases e)]; exact e) _ _ hkv3
          · rw [if_neg fun z => e5 (of_decide_eq_true z)]
            walk_at "w"
            exact stay
        · rw [if_neg fun z => e4 (by have := of_decide_eq_true z; rw [List.length_map] at this; omega)]
          walk_at "w"
          exact stay
      · rw [if_neg fun z => e3 (of_decide_eq_true z)]
        walk_at "w"
        exact stay
    clear hn hnl hnl1 eD ns
    rintro _ H3 ⟨rfl, px03, ewl3, hkv3, ns, eD3, hn⟩
    walk_at "w"
    refine w_ninI (.inl (.inl eD3)) ?_
    by_cases h0 : (0 : Int) ∈ ns
    · rw [decide_eq_true h0]
      walk_at "w"
      refine Z.w_bm ?_
      walk_at "w"
      refine Z.w_tyL eD3 ?_
      walk_at "w"
      refine w_indexI (.inl (.inl eD3)) h0 ?_
      have hjl : ns.idxOf 0 < wanted.length := by rw [← hn.1]; exact List.idxOf_lt_length_of_mem h0
      have hjw : wanted[ns.idxOf 0]? = some wanted[ns.idxOf 0] := List.getElem?_eq_getElem hjl
      have hlk := hsrt _ (List.getElem_mem hjl)
      generalize wanted[ns.idxOf 0] = lk at hjw hlk
      have hat : atI (wanted.map vS) ((ns.idxOf 0 : Nat) : Int) = some (vS lk) := atI_nat (by rw [List.getElem?_map, hjw]; rfl)
      refine Z.w_ixH ewl3 hat ?_
      have hp3 := px03.2
      have wd3 := wd.px hp px03
      have ew3 := wd3.w
      walk_at "w"
      refine ⟨⟨_, .inl (.inl wd3.r)⟩, ?_⟩
      intro D2 hD2
      refine lc_list (xs := ra.map V.ref) (fun i H' => Same H3 H' ∧ H' D2 = some (.lst (((rows.take i).filter (isC lk)).map fun r => vS r.name))) ⟨same_of (Same.refl _) hD2, upd_same⟩ (fun i H' _ q => .inl (.inl (q.1 _ _ wd3.r))) ?_ ?_
      · rintro i x H' hx ⟨sm, eD2⟩
        rw [List.getElem?_map] at hx
        obtain ⟨a, ha, rfl⟩ := Option.map_eq_some_iff.mp hx
        have hi := (List.getElem?_eq_some_iff.mp ha).1
        have hir : i < rows.length := by rw [← wd.len]; exact hi
        obtain ⟨r, hr⟩ : ∃ r, rows[i]? = some r := ⟨rows[i], List.getElem?_eq_getElem hir⟩
        have hrm := List.mem_of_getElem? hr
        obtain ⟨b, q1, q2⟩ := (wd3.same sm).at_ i a r ha hr
        have e1 : rows.take (i + 1) = rows.take i ++ [r] := by rw [List.take_add_one, hr]; rfl
        have hfl : ((rows.take i).filter (isC lk)).length ≤ i := Nat.le_trans (List.length_filter_le _ _) (by rw [List.length_take]; omega)
        refine Z.w_gname (σ' := [some (.ref q), some (.ref wb), some (.ref ts), some (vS op), some val, some (.ref wl), some (.ref D), none, some (vS lk), none, some (.ref a)]) rfl ⟨rfl, ?_⟩
        walk_at "w"
        rename_i tz htz
        have sz : Same H' (upd H' tz (.tup [])) := same_of (Same.refl _) htz
        refine eq_strs0 (ls := r.args) (wo.lay r hrm) (.inl (.inl (sz _ _ q2))) (.inl (.inl upd_same)) ?_
        have q1z := sz _ _ q1
        have eDz := sz _ _ eD2
        have smz := sm.trans sz
        generalize upd H' tz (.tup []) = Hz at q1z eDz smz ⊢
        walk_at "w"
        have hno : isC lk r = false → Same H3 Hz ∧ Hz D2 = some (.lst (((rows.take (i + 1)).filter (isC lk)).map fun r => vS r.name)) := fun z => by
          refine ⟨smz, ?_⟩
          rw [e1, List.filter_append, List.filter_cons_of_neg (by rw [z]; decide), List.filter_nil, List.append_nil]
          exact eDz
        by_cases c1 : r.args = []
        · rw [if_pos (decide_eq_true c1)]
          walk_at "w"
          by_cases c2 : r.res = lk
          · rw [if_pos (decide_eq_true c2)]
            walk_at "w"
            refine ⟨_, eDz, ?_, same_mut smz hD2, ?_⟩
            · rw [List.length_map]
              exact Nat.lt_of_le_of_lt (show _ ≤ 21 by rw [wo.len] at hir; omega) (by decide)
            · rw [upd_same, e1, List.filter_append, List.filter_cons_of_pos (by unfold isC; rw [decide_eq_true c1, decide_eq_true c2]; rfl), List.filter_nil, List.map_append]
              rfl
          · rw [if_neg fun z => c2 (of_decide_eq_true z)]
            exact hno (by unfold isC; rw [decide_eq_false c2, Bool.and_false])
        · rw [if_neg fun z => c1 (of_decide_eq_true z)]
          exact hno (by unfold isC; rw [decide_eq_false c1, Bool.false_and])
      · rintro H4 ⟨sm, eD2⟩
        rw [List.length_map, wd.len, List.take_length] at eD2
        have hcs := wo.cs lk hlk
        have px04 := px03.same sm
        have hp4 := px04.2
        walk_at "w"
        refine use_takeP hp4 (by decide) (by decide) fun r H5 px5 r0 r1 => ?_
        have nD2q : D2 ≠ q := fun z => by
          obtain ⟨o3, h3, _⟩ := hp3
          rw [z, h3] at hD2
          cases hD2
        have eD5 := px5.3 _ _ nD2q eD2
        obtain ⟨j, rfl⟩ := Int.eq_ofNat_of_zero_le r0
        have hjf : j < (rows.filter (isC lk)).length := by omega
        have hjr : (rows.filter (isC lk))[j]? = some (rows.filter (isC lk))[j] := List.getElem?_eq_getElem hjf
        have hjm := List.getElem_mem hjf
        generalize (rows.filter (isC lk))[j] = row at hjr hjm
        obtain ⟨hrm, hc⟩ := List.mem_filter.mp hjm
        unfold isC at hc
        rw [Bool.and_eq_true] at hc
        have c1 := of_decide_eq_true hc.1
        have hat5 : atI ((rows.filter (isC lk)).map fun r => vS r.name) (j : Int) = some (vS row.name) := atI_nat (by rw [List.getElem?_map, hjr]; rfl)
        refine Z.w_ixH eD5 hat5 ?_
        walk_at "w"
        rename_i pl hpl pm hpm
        have s6 : Same H5 (upd (upd H5 pl (.lst [])) pm (.tup [vS CALLo, vS row.name, .ref pl])) := same_of (same_of (Same.refl _) hpl) hpm
        refine h _ pm ((px04.trans px5).same s6) ⟨CALLo, vS row.name, pl, .text (S row.name), [], row.res, upd_same, upd_of hpm upd_same, by unfold ND.nk; rfl, ⟨(fun n hn => by cases hn), ?_⟩, by decide⟩
        have q := fitS.call (rows := rows) row hrm
        rw [c1] at q
        exact q
    · rw [decide_eq_false h0]
      walk_at "w"
      rename_i pm hpm
      obtain ⟨v1, v2⟩ := hn.fit h0
      have s4 : Same H3 (upd H3 pm (.tup [vS op, val, .ref D])) := same_of (Same.refl _) hpm
      refine h _ pm (px03.same s4) ⟨op, val, D, kv, ns, so, upd_same, s4 _ _ eD3, ND.nk_keep (fun b ys e => s4 _ _ e) _ _ hkv3, ⟨v1, by rw [v2]; exact hfit⟩, by rw [hn.1]; exact hwl⟩
end
end L

namespace L
open PySem PySem.Spec PyProof.Rows L2 Z M
open _root_.SX (S S_len S_inj)
theorem nk_inv {H : Hp} {a : Addr} {op : List Nat} {kv : NestedKey} {ns : List Int} (h : ND.nk H (nkey op kv ns) (.ref a)) : ∃ (val : V) (pa : Addr), H a = some (.tup [.str (S op), val, .ref pa]) ∧ ND.nk H kv val ∧ H pa = some (.tup (ns.map V.int)) := by
  unfold nkey ND.nk at h
  obtain ⟨b, xs, e, e1, h⟩ := h
  cases e
  unfold ND.nks at h
  obtain ⟨v, vs, rfl, h1, h⟩ := h
  unfold ND.nk at h1
  subst h1
  unfold ND.nks at h
  obtain ⟨v, vs, rfl, h2, h⟩ := h
  unfold ND.nks at h
  obtain ⟨v3, vs, rfl, h3, h⟩ := h
  unfold ND.nks at h
  subst h
  unfold ND.nk at h3
  obtain ⟨pa, ys, rfl, h4, h3⟩ := h3
  have all : ∀ (ns : List Int) (ys : List V), ND.nks H (ns.map .num) ys → ys = ns.map V.int := by
    intro ns
    induction ns with
    | nil => intro ys q; unfold ND.nks at q; exact q
    | cons n ns ih =>
      intro ys q
      rw [List.map_cons] at q
      unfold ND.nks at q
      obtain ⟨v, vs, rfl, q1, q2⟩ := q
      unfold ND.nk at q1
      rw [q1, ih _ q2]
      rfl
  rw [all _ _ h3] at h4
  exact ⟨_, pa, e1, h2, h4⟩
/-- the table of near ops -/
abbrev near6 : List (Key × V) := [(Sum.inr (S ANDo), vS ORo), (Sum.inr (S ORo), vS ANDo), (Sum.inr (S MOSTo), vS LESSo), (Sum.inr (S LESSo), vS MOSTo), (Sum.inr (S EQo), vS DISo), (Sum.inr (S IMPo), vS EQo)]
theorem keq {a b : List Nat} : ((Sum.inr (S a) : Key) = Sum.inr (S b)) ↔ a = b := ⟨fun z => by injection z with z; exact S_inj z, fun z => by rw [z]⟩
theorem near_get (op : List Nat) : (valV (mergeK [] near6) (Sum.inr (S op))).getD (vS op) = vS (nearOp op) := by
  show (valV (putK (putK (putK (putK (putK (putK ([] : List (Key × V)) (Sum.inr (S ANDo)) (vS ORo)) (Sum.inr (S ORo)) (vS ANDo)) (Sum.inr (S MOSTo)) (vS LESSo)) (Sum.inr (S LESSo)) (vS MOSTo)) (Sum.inr (S EQo)) (vS DISo)) (Sum.inr (S IMPo)) (vS EQo)) (Sum.inr (S op))).getD (vS op) = _
  rw [valV_put, valV_put, valV_put, valV_put, valV_put, valV_put]
  simp only [keq]
  unfold nearOp
  by_cases h1 : op = ANDo
  · subst h1; rfl
  by_cases h2 : op = ORo
  · subst h2; rfl
  by_cases h3 : op = MOSTo
  · subst h3; rfl
  by_cases h4 : op = LESSo
  · subst h4; rfl
  by_cases h5 : op = EQo
  · subst h5; rfl
  by_cases h6 : op = IMPo
  · subst h6; rfl
  simp only [h1, h2, h3, h4, h5, h6, if_false]
  rfl
/-! the model: nodes and sorts -/
structure MoAt (H : Hp) (mo mn ms : Addr) (ws : List Addr) (gs : List GRow) : Prop where
  mo_ : H mo = some (.lst [.ref mn, .ref ms])
  mn_ : H mn = some (.lst (ws.map V.ref))
  ms_ : H ms = some (.lst (gs.map fun g => vS g.so))
  len : ws.length = gs.length
  nk : ∀ (i : Nat) (g : GRow) (a : Addr), gs[i]? = some g → ws[i]? = some a → ND.nk H g.k (.ref a)
theorem MoAt.ch {S : List Addr} {H H' : Hp} {mo mn ms : Addr} {ws : List Addr} {gs : List GRow} (h : MoAt H mo mn ms ws gs) (c : Ch S H H') (m : NoTup S H) (n : ∀ b ∈ S, b ≠ mo ∧ b ≠ mn ∧ b ≠ ms) : MoAt H' mo mn ms ws gs :=
  ⟨c _ _ (fun z => (n _ z).1 rfl) h.mo_, c _ _ (fun z => (n _ z).2.1 rfl) h.mn_, c _ _ (fun z => (n _ z).2.2 rfl) h.ms_, h.len, fun i g a e1 e2 => ND.nk_keep (fun b ys e => c.tup m e) _ _ (h.nk i g a e1 e2)⟩
theorem MoAt.same {H H' : Hp} {mo mn ms : Addr} {ws : List Addr} {gs : List GRow} (h : MoAt H mo mn ms ws gs) (c : Same H H') : MoAt H' mo mn ms ws gs :=
  h.ch (S := []) (Ch.of c) (fun b hb => by cases hb) (fun b hb => by cases hb)
/-- the rows of a table fit -/
def Good (rows : List WRow) (gs : List GRow) : Prop := ∀ g ∈ gs, Fits rows gs g.op g.kv g.ns g.so ∧ g.ns.length ≤ 14
theorem refs_pool {q mn : Addr} {ws : List Addr} {H : Hp} (hp : PoolAt H q) (e : H mn = some (.lst (ws.map V.ref))) : mn ≠ q := ne_pool hp e fun c k b s z => by
  cases ws with
  | nil => cases z
  | cons g gs =>
    rw [List.map_cons] at z
    injection z with z _
    cases z
theorem w_revT {K : PySem.W.Frag} {te : TE} {σ : L2.St} {H : Hp} {Q : VK} (h : te σ H fun x H1 => ∃ a xs, x = .ref a ∧ SqT K H1 a xs ∧ ∀ p, H1 p = none → Q (.ref p) (upd H1 p (.tup xs.reverse))) : RVT.tRevT K te σ H Q := h
section
variable {P : Program} {w : World} {K : PySem.W.Frag} {mg : Str → Option Value} {base : Heap}
def spAgain : Sp := fun vs H Q _ => ∃ (q mn : Addr) (ws : List Addr) (rows : List WRow) (gs : List GRow), vs = [.ref q, .ref mn] ∧ PoolAt H q ∧ H mn = some (.lst (ws.map V.ref)) ∧ ws.length = gs.length ∧ (∀ (i : Nat) (g : GRow) (a : Addr), gs[i]? = some g → ws[i]? = some a → ND.nk H g.k (.ref a)) ∧ 1 ≤ gs.length ∧ gs.length ≤ 500 ∧ Good rows gs ∧
  ∀ H' p, PX q H H' → MkRow rows gs H' p → Q (.ref p) H'
theorem ok_again (T : Txt K mg) : FnOk P w K mg base CX0 2 T.f_again T.fd_again ["_law_pool_here", "_law_rows"] spAgain := by
  have G_take := ok_take (P := P) (w := w) (base := base) T
  refine T.F_again.ok sc_again (fun vs H Q E h => ?_) (fun cdv A outer s H vs Q E hr h => ?_)
  · obtain ⟨q, mn, ws, rows, gs, rfl, _⟩ := h
    rfl
  · obtain ⟨q, mn, ws, rows, gs, rfl, hp, emn, hwl, hnk, hg1, hg2, good, h⟩ := h
    have nmq := refs_pool hp emn
    have hlm : (ws.map V.ref).length = gs.length := by rw [List.length_map]; exact hwl
    refine ⟨_, (pss_cons (ps_asg (pe_ix ix_list (pv 1) (pe_call G_take (hr.mono (by first | decide | omega)) (by rfl) T.g_take T.F_take.kp T.b_take .nil pass0 (pa_cons (pv 0) (pa_cons (pe_callB call_len_seq (by rfl) T.m_len (by decide +kernel) (pa_cons (pv 1) pa_nil)) pa_nil))) (fun _ _ => rfl)) (pg_tup (by rfl) (pgs_cons (pg_name (i := 2) sc_again.nd rfl (.inl rfl)) (pgs_cons (pg_name (i := 3) sc_again.nd rfl (.inl rfl)) (pgs_cons (pg_name (i := 4) sc_again.nd rfl (.inl rfl)) pgs_nil)))))
 (pss_cons (ps_set (i := 5) sc_again.nd rfl (.inl rfl) (pe_call G_take (hr.mono (by first | decide | omega)) (by rfl) T.g_take T.F_take.kp T.b_take .nil pass0 (pa_cons (pv 0) (pa_cons pe_int pa_nil))))
 (pss_cons (ps_if (PW.pt (pw_and (pt_cmpR op_eq (pv 5) pe_int (nomark _)) (pw_and1 (pt_cmpR op_in_seq (pv 2) (pe_tup (pa_cons (MT.pe_strS (l := [101, 113, 117, 97, 108]) (by decide +kernel)) (pa_cons (MT.pe_strS (l := [97, 110, 100]) (by decide +kernel)) (pa_cons (MT.pe_strS (l := [111, 114]) (by decide +kernel)) (pa_cons (MT.pe_strS (l := [105, 109, 112, 108, 121]) (by decide +kernel)) (pa_cons (MT.pe_strS (l := [100, 105, 115, 116, 105, 110, 99, 116]) (by decide +kernel)) (pa_cons (MT.pe_strS (l := [109, 111, 115, 116]) (by decide +kernel)) (pa_cons (MT.pe_strS (l := [108, 101, 115, 115]) (by decide +kernel)) (pa_cons (MT.pe_strS (l := [115, 117, 109]) (by decide +kernel)) pa_nil))))))))) rfl)))) (pss_one (ps_ret (pe_tup (pa_cons (pv 2) (pa_cons (pv 3) (pa_cons (pe_callTy call_list_of (by rfl) T.m_list (by decide +kernel) (pa_cons (RVT.pe_revT (pv 4)) pa_nil)) pa_nil)))))) pss_nil)
 (pss_cons (ps_if (PW.pt (pw_and (pt_cmpR op_eq (pv 5) pe_int (nomark _)) (pw_and1 (PW.pt (pw_or (pt_cmpR op_eq (pv 2) (MT.pe_strS (l := [119, 104, 111, 108, 101]) (by decide +kernel)) (nomark _)) (pw_or1 (pt_cmpR op_eq (pv 2) (MT.pe_strS (l := [115, 104, 105, 102, 116]) (by decide +kernel)) (nomark _)))))))) (pss_one (ps_ret (pe_tup (pa_cons (pv 2) (pa_cons (pe_ifExp (pt_cmpR op_gt (pv 3) pe_int (nomark _)) (pe_op op_sub (pv 3) pe_int) (pe_op op_add (pv 3) pe_int)) (pa_cons (pe_callTy call_list_of (by rfl) T.m_list (by decide +kernel) (pa_cons (pv 4) pa_nil)) pa_nil)))))) pss_nil)
 (pss_cons (ps_if (pt_cmpR op_eq (pv 5) pe_int (nomark _)) (pss_cons (ps_set (i := 6) sc_again.nd rfl (.inl rfl) (pe_disp (pps_cons (MT.pe_strS (l := [97, 110, 100]) (by decide +kernel)) (MT.pe_strS (l := [111, 114]) (by decide +kernel)) (pps_cons (MT.pe_strS (l := [111, 114]) (by decide +kernel)) (MT.pe_strS (l := [97, 110, 100]) (by decide +kernel)) (pps_cons (MT.pe_strS (l := [109, 111, 115, 116]) (by decide +kernel)) (MT.pe_strS (l := [108, 101, 115, 115]) (by decide +kernel)) (pps_cons (MT.pe_strS (l := [108, 101, 115, 115]) (by decide +kernel)) (MT.pe_strS (l := [109, 111, 115, 116]) (by decide +kernel)) (pps_cons (MT.pe_strS (l := [101, 113, 117, 97, 108]) (by decide +kernel)) (MT.pe_strS (l := [100, 105, 115, 116, 105, 110, 99, 116]) (by decide +kernel)) (pps_cons (MT.pe_strS (l := [105, 109, 112, 108, 121]) (by decide +kernel)) (MT.pe_strS (l := [101, 113, 117, 97, 108]) (by decide +kernel)) pps_nil)))))) (by rfl) (by rfl) (fun z => by cases z) (by decide)))
 (pss_one (ps_ret (pe_tup (pa_cons (pe_dget2 (hu_of hr) (pv 6) (pv 2) (pv 2) ⟨rfl, rfl, rfl, rfl⟩) (pa_cons (pv 3) (pa_cons (pe_callTy call_list_of (by rfl) T.m_list (by decide +kernel) (pa_cons (pv 4) pa_nil)) pa_nil))))))) pss_nil)
 (pss_one (ps_ret (pe_tup (pa_cons (pv 2) (pa_cons (pv 3) (pa_cons (pe_callTy call_list_of (by rfl) T.m_list (by decide +kernel) (pa_cons (pv 4) pa_nil)) pa_nil))))))))))), ?_⟩
    refine Z.w_start (σ' := [some (.ref q), some (.ref mn), none, none, none, none, none]) rfl ?_
    walk_at "w"
    refine use_takeP hp (by rw [hlm]; omega) (by rw [hlm]; omega) fun r H1 px1 r0 r1 => ?_
    rw [hlm] at r1
    have emn1 := px1.3 _ _ nmq emn
    obtain ⟨j, rfl⟩ := Int.eq_ofNat_of_zero_le r0
    have hj : j < gs.length := by omega
    have eg : gs[j]? = some gs[j] := List.getElem?_eq_getElem hj
    have ea : ws[j]? = some (ws[j]'(by omega)) := List.getElem?_eq_getElem _
    obtain ⟨hfit, hnl⟩ := good _ (List.getElem_mem hj)
    have hk := hnk j _ _ eg ea
    generalize gs[j] = g at eg hfit hnl hk
    generalize ws[j]'(by omega) = a at ea hk
    have hk1 : ND.nk H1 g.k (.ref a) := ND.nk_keep (fun b ys e => px1.3 _ _ (tup_pool hp e) e) _ _ hk
    obtain ⟨val, pa, e1, hkv, e2⟩ := nk_inv hk1
    obtain ⟨op, kv, ns, so⟩ := g
    have hat : atI (ws.map V.ref) (j : Int) = some (.ref a) := atI_nat (by rw [List.getElem?_map, ea]; rfl)
    refine Z.w_ixH emn1 hat ?_
    have hp1 := px1.2
    have e1 : H1 a = some (.tup [vS op, val, .ref pa]) := e1
    have e2 : H1 pa = some (.tup (ns.map V.int)) := e2
    have hkv : ND.nk H1 kv val := hkv
    have hfit : Fits rows gs op kv ns so := hfit
    have hnl : ns.length ≤ 14 := hnl
    clear hk hk1
    walk_at "w"
    refine use_takeP hp1 (by decide) (by decide) fun tw H2 px2 t0 t1 => ?_
    have px02 := px1.trans px2
    have e22 : H2 pa = some (.tup (ns.map V.int)) := px2.3 _ _ (tup_pool hp1 e2) e2
    have hkv2 : ND.nk H2 kv val := ND.nk_keep (fun b ys e => px2.3 _ _ (tup_pool hp1 e) e) _ _ hkv
    clear e1 e2 hkv
    -- what each way leads to
    have way : ∀ (Hx : Hp) (op' : List Nat) (val' : V) (kv' : NestedKey) (ms : List Int) (l p : Addr), Same H2 Hx → Hx l = some (.lst (ms.map V.int)) → Hx p = none → ND.nk Hx kv' val' → Fits rows gs op' kv' ms so → ms.length ≤ 14 → Q (.ref p) (upd Hx p (.tup [vS op', val', .ref l])) := fun Hx op' val' kv' ms l p sx el hpn hk' hf' hl' => by
      have s3 : Same Hx (upd Hx p (.tup [vS op', val', .ref l])) := same_of (Same.refl _) hpn
      exact h _ p ((px02.same sx).same s3) ⟨op', val', l, kv', ms, so, upd_same, s3 _ _ el, ND.nk_keep (fun b ys e => s3 _ _ e) _ _ hk', hf', hl'⟩
    have stay : ∀ (Hx : Hp) (l p : Addr), Same H2 Hx → Hx l = some (.lst (ns.map V.int)) → Hx p = none → Q (.ref p) (upd Hx p (.tup [vS op, val, .ref l])) := fun Hx l p sx el hpn => way Hx op val kv ns l p sx el hpn (ND.nk_keep (fun b ys e => sx _ _ e) _ _ hkv2) hfit hnl
    repeat' (first | with_reducible refine seqIf (fun σ' Hx => σ' = [some (.ref q), some (.ref mn), some (vS op), some val, some (.ref pa), some (.int tw), none] ∧ Same H2 Hx) (fun Rk kk => ?_) ?_ | walk_at "w1")
    · by_cases t2 : tw = 2
      · rw [if_pos (decide_eq_true t2)]
        walk_at "w"
        rename_i tt htt
        have stt : Same H2 (upd H2 tt (.tup (revOps.map vS))) := same_of (Same.refl _) htt
        refine w_inS (l := op) (ls := revOps) (.inl (.inl upd_same)) ?_
        by_cases ho : op ∈ revOps
        · rw [decide_eq_true ho]
          have e3 : upd H2 tt (.tup (revOps.map vS)) pa = some (.tup (ns.map V.int)) := stt _ _ e22
          walk_at "w"
          refine w_revT ?_
          walk_at "w"
          refine ⟨pa, _, rfl, .inl (.inl e3), fun pr hpr => ?_⟩
          have s4 := same_of stt hpr (o := .tup (ns.map V.int).reverse)
          walk_at "w"
          intro l hl
          walk_at "w"
          rename_i p hpn
          exact way _ op val kv ns.reverse l p (same_of s4 hl) (by rw [upd_same, List.map_reverse]) hpn (ND.nk_keep (fun b ys e => same_of s4 hl _ _ e) _ _ hkv2) (hfit.perm ho (List.reverse_perm ns)) (by rw [List.length_reverse]; exact hnl)
        · rw [decide_eq_false ho]
          walk_at "w"
          exact kk _ _ ⟨rfl, stt⟩
      · rw [if_neg fun z => t2 (of_decide_eq_true z)]
        walk_at "w"
        exact kk _ _ ⟨rfl, Same.refl _⟩
    rintro _ H3 ⟨rfl, s3⟩
    have e3 := s3 _ _ e22
    have hkv3 : ND.nk H3 kv val := ND.nk_keep (fun b ys e => s3 _ _ e) _ _ hkv2
    repeat' (first | with_reducible refine seqIf (fun σ' Hx => σ' = [some (.ref q), some (.ref mn), some (vS op), some val, some (.ref pa), some (.int tw), none] ∧ Same H2 Hx) (fun Rk kk => ?_) ?_ | walk_at "w1")
    · by_cases t3 : tw = 3
      · rw [if_pos (decide_eq_true t3)]
        walk_at "w"
        have num : (op = WHOLE ∨ op = SHIo) → ∃ i : Int, val = .int i ∧ i.natAbs ≤ 10 ^ 17 ∧ Fits rows gs op (.num (if i > 0 then i - 1 else i + 1)) ns so := fun ho => by
          obtain ⟨i, rfl, hi, hf⟩ := fit_step (i := 0) hfit.2 ho
          unfold ND.nk at hkv3
          exact ⟨i, hkv3, hi, hfit.1, hf⟩
        by_cases o1 : op = [119, 104, 111, 108, 101]
        · rw [if_pos (decide_eq_true o1), if_pos rfl]
          obtain ⟨i, rfl, hi, hf⟩ := num (.inl o1)
          by_cases gi : i > 0
          · rw [if_pos gi] at hf
            walk_at "w"
            intro l hl
            walk_at "w"
            rename_i p hpn
            exact way _ op (.int (i - 1)) (.num (i - 1)) ns l p (same_of s3 hl) upd_same hpn (by unfold ND.nk; rfl) hf hnl
          · rw [if_neg gi] at hf
            walk_at "w"
            intro l hl
            walk_at "w"
            rename_i p hpn
            exact way _ op (.int (i + 1)) (.num (i + 1)) ns l p (same_of s3 hl) upd_same hpn (by unfold ND.nk; rfl) hf hnl
        · rw [if_neg fun z => o1 (of_decide_eq_true z)]
          walk_at "w"
          by_cases o2 : op = [115, 104, 105, 102, 116]
          · rw [if_pos (decide_eq_true o2)]
            obtain ⟨i, rfl, hi, hf⟩ := num (.inr o2)
            by_cases gi : i > 0
            · rw [if_pos gi] at hf
              walk_at "w"
              intro l hl
              walk_at "w"
              rename_i p hpn
              exact way _ op (.int (i - 1)) (.num (i - 1)) ns l p (same_of s3 hl) upd_same hpn (by unfold ND.nk; rfl) hf hnl
            · rw [if_neg gi] at hf
              walk_at "w"
              intro l hl
              walk_at "w"
              rename_i p hpn
              exact way _ op (.int (i + 1)) (.num (i + 1)) ns l p (same_of s3 hl) upd_same hpn (by unfold ND.nk; rfl) hf hnl
          · rw [if_neg fun z => o2 (of_decide_eq_true z)]
            walk_at "w"
            exact kk _ _ ⟨rfl, s3⟩
      · rw [if_neg fun z => t3 (of_decide_eq_true z)]
        walk_at "w"
        exact kk _ _ ⟨rfl, s3⟩
    clear e3 hkv3
    rintro _ H3 ⟨rfl, s3⟩
    have e3 := s3 _ _ e22
    walk_at "w"
    by_cases t3 : tw = 3
    · rw [if_pos (decide_eq_true t3)]
      walk_at "w"
      intro dp hdp
      refine ⟨upd_same, near6, rfl, by decide, ?_⟩
      have e1 : upd (upd H3 dp (.dK [])) dp (.dK (mergeK [] near6)) dp = some (.dK (mergeK [] near6)) := upd_same
      have sd : Same H3 (upd (upd H3 dp (.dK [])) dp (.dK (mergeK [] near6))) := fun b x e => by
        have nb : b ≠ dp := ne_of_none e hdp
        rw [upd_ne nb, upd_ne nb]
        exact e
      generalize upd (upd H3 dp (.dK [])) dp (.dK (mergeK [] near6)) = H4 at e1 sd ⊢
      have e4 := sd _ _ e3
      walk_at "w"
      refine w_tdget2 ?_
      walk_at "w"
      refine ⟨.inl ⟨_, .inl e1⟩, ?_⟩
      walk_at "w"
      refine ⟨_, DGet.k (k := Sum.inr (S op)) e1, ?_⟩
      rw [near_get]
      walk_at "w"
      intro l hl
      walk_at "w"
      rename_i p hpn
      have s5 := same_of (s3.trans sd) hl (o := .lst (ns.map V.int))
      exact way _ (nearOp op) val kv ns l p s5 upd_same hpn (ND.nk_keep (fun b ys e => s5 _ _ e) _ _ hkv2) ⟨hfit.1, fit_near hfit.2⟩ hnl
    · rw [if_neg fun z => t3 (of_decide_eq_true z)]
      walk_at "w"
      intro l hl
      walk_at "w"
      rename_i p hpn
      exact stay _ l p (same_of s3 hl) upd_same hpn
end
end L

namespace L
open PySem PySem.Spec PyProof.Rows L2 Z M
open _root_.SX (S S_len S_inj)
theorem fit_eq {rows : List WRow} {kv : NestedKey} {ls : List (List Nat)} {so : List Nat} (h : fitS rows EQo kv ls so) : ∃ a, ls = [a, a] := by
  generalize e : EQo = op at h
  cases h with
  | eq a => exact ⟨a, rfl⟩
  | _ => exact absurd e (by decide)
theorem Fits.two {rows : List WRow} {gs : List GRow} {kv : NestedKey} {ns : List Int} {so : List Nat} (h : Fits rows gs EQo kv ns so) : ∃ a b, ns = [a, b] := by
  obtain ⟨s, e⟩ := fit_eq h.2
  match ns, e with
  | [a, b], _ => exact ⟨a, b, rfl⟩
  | [], e => cases e
  | [_], e => cases e
  | _ :: _ :: _ :: _, e => exact absurd (congrArg List.length e) (by simp)
theorem kept_two {a b m M : Int} (h1 : m ∈ [a, b]) (h2 : ∀ x ∈ [a, b], m ≤ x) (h3 : M ∈ [a, b]) (h4 : ∀ x ∈ [a, b], x ≤ M) : Kept EQo [a, b] [m, M] := by
  unfold Kept
  rw [if_pos (show EQo = EQU from rfl)]
  have q1 := h2 a (by simp)
  have q2 := h2 b (by simp)
  have q3 := h4 a (by simp)
  have q4 := h4 b (by simp)
  simp only [List.mem_cons, List.not_mem_nil, or_false] at h1 h3
  by_cases e : a ≤ b
  · obtain rfl : m = a := by omega
    obtain rfl : M = b := by omega
    exact ⟨.refl _, by simp; omega⟩
  · obtain rfl : m = b := by omega
    obtain rfl : M = a := by omega
    exact ⟨.swap _ _ _, by simp; omega⟩
section
variable {P : Program} {w : World} {K : PySem.W.Frag} {mg : Str → Option Value} {base : Heap}
def spNodeL : Sp := fun vs H Q _ => ∃ (pm pl : Addr) (op : List Nat) (val : V) (kv : NestedKey) (ns : List Int), vs = [.ref pm] ∧ H pm = some (.tup [vS op, val, .ref pl]) ∧ H pl = some (.lst (ns.map V.int)) ∧ ND.nk H kv val ∧ (op = EQo → ∃ a b, ns = [a, b]) ∧ ns.length ≤ 14 ∧
  ∀ H' p pa ms, Same H H' → H' p = some (.tup [vS op, val, .ref pa]) → H' pa = some (.tup (ms.map V.int)) → Kept op ns ms → Q (.ref p) H'
theorem ok_nodeL (T : Txt K mg) : FnOk P w K mg base CX0 1 T.f_node T.fd_node ["_law_making_here"] spNodeL := by
  refine T.F_node.ok sc_node (fun vs H Q E h => ?_) (fun cdv A outer s H vs Q E hr h => ?_)
  · obtain ⟨pm, pl, op, val, kv, ns, rfl, _⟩ := h
    rfl
  · obtain ⟨pm, pl, op, val, kv, ns, rfl, e1, e2, hkv, heq, hnl, h⟩ := h
    refine ⟨_, (pss_cons (ps_asg (pv 0) (pg_tup (by rfl) (pgs_cons (pg_name (i := 1) sc_node.nd rfl (.inl rfl)) (pgs_cons (pg_name (i := 2) sc_node.nd rfl (.inl rfl)) (pgs_cons (pg_name (i := 3) sc_node.nd rfl (.inl rfl)) pgs_nil)))))
 (pss_cons (ps_if (pt_cmpR op_eq (pv 1) (MT.pe_strS (l := [101, 113, 117, 97, 108]) (by decide +kernel)) (nomark _)) (pss_one (ps_ret (pe_tup (pa_cons (pv 1) (pa_cons (pv 2) (pa_cons (pe_tup (pa_cons (pe_callB (cr_min rfl) (by rfl) T.m_min (by decide +kernel) (pa_cons (pv 3) pa_nil)) (pa_cons (pe_callB (cr_max rfl) (by rfl) T.m_max (by decide +kernel) (pa_cons (pv 3) pa_nil)) pa_nil))) pa_nil)))))) pss_nil)
 (pss_one (ps_ret (pe_tup (pa_cons (pv 1) (pa_cons (pv 2) (pa_cons (pe_callTy call_tuple_of (by rfl) T.m_tuple (by decide +kernel) (pa_cons (pv 3) pa_nil)) pa_nil)))))))), ?_⟩
    refine Z.w_start (σ' := [some (.ref pm), none, none, none]) rfl ?_
    walk_at "w"
    by_cases ho : op = [101, 113, 117, 97, 108]
    · obtain ⟨a, b, rfl⟩ := heq ho
      refine Z.w_iteT ho ?_
      walk_at "w"
      refine ⟨pl, [a, b], rfl, .inl (.inl e2), (show 0 < 2 by decide), fun m m1 m2 => ?_⟩
      walk_at "w"
      refine ⟨pl, [a, b], rfl, .inl (.inl e2), (show 0 < 2 by decide), fun M M1 M2 => ?_⟩
      walk_at "w"
      rename_i p1 g1 p2 g2
      exact h _ p2 p1 [m, M] (same_of (same_of (Same.refl _) g1) g2) upd_same (upd_of g2 upd_same) (by rw [ho]; exact kept_two m1 m2 M1 M2)
    · refine Z.w_iteF ho ?_
      walk_at "w"
      refine ⟨pl, _, rfl, .inl ⟨.inl (.inl e2), fun p1 g1 => ?_⟩⟩
      walk_at "w"
      rename_i p2 g2
      exact h _ p2 p1 ns (same_of (same_of (Same.refl _) g1) g2) upd_same (upd_of g2 upd_same) (by unfold Kept; rw [if_neg (show ¬ op = EQU from ho)])
theorem name_inj {rows : List WRow} (hn : (rows.map (·.name)).Nodup) {r x : WRow} (hr : r ∈ rows) (hx : x ∈ rows) (e : x.name = r.name) : x = r := by
  induction rows with
  | nil => cases hr
  | cons s rows ih =>
    rw [List.map_cons, List.nodup_cons] at hn
    have n1 : ∀ y ∈ rows, y.name ≠ s.name := fun y hy z => hn.1 (List.mem_map.mpr ⟨y, hy, z⟩)
    rcases List.mem_cons.mp hr with er | hr
    · rcases List.mem_cons.mp hx with ex | hx
      · rw [er, ex]
      · exact absurd (e.trans (by rw [er])) (n1 x hx)
    · rcases List.mem_cons.mp hx with ex | hx
      · exact absurd (e.symm.trans (by rw [ex])) (n1 r hr)
      · exact ih hn.2 hr hx
def isN (f : List Nat) (r : WRow) : Bool := decide (r.name = f)
theorem first_named {rows : List WRow} (hn : (rows.map (·.name)).Nodup) {r : WRow} (hr : r ∈ rows) : (rows.filter (isN r.name))[0]? = some r := by
  have hm : r ∈ rows.filter (isN r.name) := List.mem_filter.mpr ⟨hr, by unfold isN; exact decide_eq_true rfl⟩
  have hl := List.length_pos_of_mem hm
  rw [List.getElem?_eq_getElem hl]
  have hx := List.mem_filter.mp (List.getElem_mem hl)
  have h2 : ((rows.filter (isN r.name))[0]).name = r.name := of_decide_eq_true hx.2
  rw [name_inj hn hr hx.1 h2]
def spNodeSort : Sp := fun vs H Q _ => ∃ (wb rb pm pl ts : Addr) (ra : List Addr) (tl ot : List Nat) (rows : List WRow) (gs : List GRow) (op : List Nat) (val : V) (kv : NestedKey) (ns : List Int) (so : List Nat), vs = [.ref wb, .ref pm, .ref ts] ∧ W3At H wb rb ra tl ot rows ∧ WOk tl ot rows ∧ H pm = some (.tup [vS op, val, .ref pl]) ∧ H pl = some (.lst (ns.map V.int)) ∧ ND.nk H kv val ∧ H ts = some (.lst (gs.map fun g => vS g.so)) ∧ Fits rows gs op kv ns so ∧
  ∀ H', Same H H' → Q (.str (S so)) H'
theorem ok_nodeSort (T : Txt K mg) : FnOk P w K mg base CX0 1 T.f_node_sort T.fd_node_sort ["_law_world_here", "_law_making_here", "_law_sorts"] spNodeSort := by
  refine T.F_node_sort.ok sc_node_sort (fun vs H Q E h => ?_) (fun cdv A outer s H vs Q E hr h => ?_)
  · obtain ⟨wb, rb, pm, pl, ts, ra, tl, ot, rows, gs, op, val, kv, ns, so, rfl, _⟩ := h
    rfl
  · obtain ⟨wb, rb, pm, pl, ts, ra, tl, ot, rows, gs, op, val, kv, ns, so, rfl, wd, wo, e1, e2, hkv, ets, ⟨hv, hf⟩, h⟩ := h
    have ew := wd.w
    refine ⟨_, (pss_cons (ps_asg (pv 1) (pg_tup (by rfl) (pgs_cons (pg_name (i := 3) sc_node_sort.nd rfl (.inl rfl)) (pgs_cons (pg_name (i := 4) sc_node_sort.nd rfl (.inr rfl)) (pgs_cons (pg_name (i := 5) sc_node_sort.nd rfl (.inl rfl)) pgs_nil)))))
 (pss_cons (ps_if (pt_cmpR op_eq (pv 3) (MT.pe_strS (l := [99, 97, 108, 108]) (by decide +kernel)) (nomark _)) (pss_one (ps_ret (pe_ix ix_list (pe_lc (own := [("_law_row", 6)]) (g := gName 6) (by rfl) sc_node_sort.nd (pi_list (pe_ix ix_list (pv 0) pe_int (fun _ _ => rfl))) (blkOk_by (own := [("_law_row", 6)]) (N := N_node_sort) (sc := defScope s_node_sort) (by decide +kernel)) (fun _ _ _ _ _ => pg_name (i := 6) sc_node_sort.nd rfl (Or.inl rfl)) (fun _ _ _ _ _ => pts_one (pt_cmpR op_eq (pe_ix (show IxR _ (rIxT K) from ix_tup) (pv 6) pe_int (fun _ _ => rfl)) (pv 4) (nomark _))) (fun _ _ _ _ _ => (pe_ix (show IxR _ (rIxT K) from ix_tup) (pv 6) pe_int (fun _ _ => rfl)))) pe_int (fun _ _ => rfl)))) pss_nil)
 (pss_cons (ps_if (pt_cmpR op_eq (pv 3) (MT.pe_strS (l := [105, 102]) (by decide +kernel)) (nomark _)) (pss_one (ps_ret (pe_ix ix_list (pv 2) (pe_op op_sub (pe_ix ix_list (pv 5) pe_int (fun _ _ => rfl)) pe_int) (fun _ _ => rfl)))) pss_nil)
 (pss_cons (ps_if (PW.pt (pw_or (pt_cmpR op_eq (pv 3) (MT.pe_strS (l := [119, 104, 111, 108, 101]) (by decide +kernel)) (nomark _)) (pw_or1 (pt_cmpR op_eq (pv 3) (MT.pe_strS (l := [115, 104, 105, 102, 116]) (by decide +kernel)) (nomark _))))) (pss_one (ps_ret (MT.pe_strS (l := [119, 104, 111, 108, 101]) (by decide +kernel)))) pss_nil)
 (pss_cons (ps_if (PW.pt (pw_or (pt_cmpR op_eq (pv 3) (MT.pe_strS (l := [114, 97, 116, 105, 111]) (by decide +kernel)) (nomark _)) (pw_or (pt_cmpR op_eq (pv 3) (MT.pe_strS (l := [115, 117, 109]) (by decide +kernel)) (nomark _)) (pw_or1 (pt_cmpR op_eq (pv 3) (MT.pe_strS (l := [115, 99, 97, 108, 101]) (by decide +kernel)) (nomark _)))))) (pss_one (ps_ret (MT.pe_strS (l := [114, 97, 116, 105, 111]) (by decide +kernel)))) pss_nil)
 (pss_one (ps_ret (MT.pe_strS (l := [116, 114, 117, 116, 104]) (by decide +kernel))))))))), ?_⟩
    refine Z.w_start (σ' := [some (.ref wb), some (.ref pm), some (.ref ts), none, none, none, none]) rfl ?_
    have hq := h H (Same.refl _)
    generalize hls : ns.map (soG gs) = ls at hf
    cases hf with
    | call r hr =>
      unfold ND.nk at hkv
      subst hkv
      walk_at "w"
      refine ⟨⟨_, .inl (.inl wd.r)⟩, ?_⟩
      intro D hD
      refine lc_list (xs := ra.map V.ref) (fun i H' => Same H H' ∧ H' D = some (.lst (((rows.take i).filter (isN r.name)).map fun r => vS r.res))) ⟨same_of (Same.refl _) hD, upd_same⟩ (fun i H' _ q => .inl (.inl (q.1 _ _ wd.r))) ?_ ?_
      · rintro i x H' hx ⟨sm, eD⟩
        rw [List.getElem?_map] at hx
        obtain ⟨a, ha, rfl⟩ := Option.map_eq_some_iff.mp hx
        have hi := (List.getElem?_eq_some_iff.mp ha).1
        have hir : i < rows.length := by rw [← wd.len]; exact hi
        obtain ⟨y, hy⟩ : ∃ y, rows[i]? = some y := ⟨rows[i], List.getElem?_eq_getElem hir⟩
        obtain ⟨b, q1, q2⟩ := (wd.same sm).at_ i a y ha hy
        have e1 : rows.take (i + 1) = rows.take i ++ [y] := by rw [List.take_add_one, hy]; rfl
        have hfl : ((rows.take i).filter (isN r.name)).length ≤ i := Nat.le_trans (List.length_filter_le _ _) (by rw [List.length_take]; omega)
        refine Z.w_gname (σ' := [some (.ref wb), some (.ref pm), some (.ref ts), some (vS CALLo), some (vS r.name), some (.ref pl), some (.ref a)]) rfl ⟨rfl, ?_⟩
        walk_at "w"
        by_cases c1 : y.name = r.name
        · rw [if_pos (decide_eq_true c1)]
          walk_at "w"
          refine ⟨_, eD, ?_, same_mut sm hD, ?_⟩
          · rw [List.length_map]
            exact Nat.lt_of_le_of_lt (show _ ≤ 21 by rw [wo.len] at hir; omega) (by decide)
          · rw [upd_same, e1, List.filter_append, List.filter_cons_of_pos (by unfold isN; exact decide_eq_true c1), List.filter_nil, List.map_append]
            rfl
        · rw [if_neg fun z => c1 (of_decide_eq_true z)]
          refine ⟨sm, ?_⟩
          rw [e1, List.filter_append, List.filter_cons_of_neg (by unfold isN; rw [decide_eq_false c1]; decide), List.filter_nil, List.append_nil]
          exact eD
      · rintro H2 ⟨sm, eD⟩
        rw [List.length_map, wd.len, List.take_length] at eD
        have hat : atI ((rows.filter (isN r.name)).map fun r => vS r.res) (0 : Int) = some (vS r.res) := atI_nat (j := 0) (by rw [List.getElem?_map, first_named wo.nd hr]; rfl)
        walk_at "w"
        first | exact h H2 sm | exact Z.w_ixH eD hat (h H2 sm)
    | ite a =>
      have hlen : ns.length = 3 := by
        have := congrArg List.length hls
        rwa [List.length_map] at this
      obtain ⟨n0, n1, n2, rfl⟩ : ∃ x y z, ns = [x, y, z] := by
        match ns, hlen with
        | [x, y, z], _ => exact ⟨x, y, z, rfl⟩
      · skip
        have hn1 := hv n1 (by simp)
        unfold ValG at hn1
        have es : soG gs n1 = so := by
          rw [List.map_cons, List.map_cons] at hls
          injection hls with _ hls
          injection hls with hls _
        have hat0 : atI ([n0, n1, n2].map V.int) (1 : Int) = some (.int n1) := atI_nat (j := 1) rfl
        have hi : gs[(n1 - 1).toNat]? = some gs[(n1 - 1).toNat] := List.getElem?_eq_getElem (by omega)
        have hat1 : atI (gs.map fun g => vS g.so) (n1 - 1) = some (vS so) := by
          rw [show n1 - 1 = ((n1 - 1).toNat : Int) by omega]
          refine atI_nat ?_
          rw [List.getElem?_map, hi]
          unfold soG at es
          rw [hi] at es
          rw [← es]
          rfl
        walk_at "w"
        exact hq
    | _ => walk_at "w"; exact hq
end
end L

namespace L
open PySem PySem.Spec PyProof.Rows L2 Z DT
section
variable {K : PySem.W.Frag} {H : Hp} {Q : VK}
theorem w_isi_it {a : Int} (q : Q (.bl false) H) : rIsi K [.int a, .ty "tuple"] H Q := w_isi (.ty _) (.base (.int _)) (kit_ty (by decide +kernel)) q
theorem w_isi_st {a : Str} (q : Q (.bl false) H) : rIsi K [.str a, .ty "tuple"] H Q := w_isi (.ty _) (.base (.str _)) (kit_ty (by decide +kernel)) q
theorem w_isi_nt (q : Q (.bl false) H) : rIsi K [.non, .ty "tuple"] H Q := w_isi (.ty _) (.base .non) (kit_ty (by decide +kernel)) q
theorem w_isi_ns (q : Q (.bl false) H) : rIsi K [.non, .ty "str"] H Q := w_isi (.ty _) (.base .non) (kit_ty (by decide +kernel)) q
end
end L

local macro_rules | `(tactic| walk_at "pl") => `(tactic| first | assumption | exact L.PX.refl' (by assumption) | fail "pl")
local macro_rules | `(tactic| walk_at "w1") => `(tactic| first
  | ((with_reducible refine' Z.w_ixT ?wh ?wa ?_); (case wh => walk_at "seq"); (case wa => exact rfl))
  | ((with_reducible refine' Z.w_gtup ?wh ?wa ?_); (case wh => walk_at "seq"); (case wa => exact rfl))
  | ((with_reducible refine' L.w_isiT_T ?wh ?_); (case wh => walk_at "seq"))
  | with_reducible refine L.use_whole ?_
  | with_reducible refine L.w_tdget ?_
  | with_reducible refine L.w_tdget2 ?_
  | with_reducible refine Z.w_rEqI ?_
  | with_reducible refine Z.w_rNeI ?_
  | ((with_reducible refine' Z.w_rEq ?wh ?_); (case wh => exact rfl))
  | ((with_reducible refine' Z.w_rNe ?wh ?_); (case wh => exact rfl))
  | with_reducible refine L.w_isi_it ?_
  | with_reducible refine L.w_isi_st ?_
  | with_reducible refine L.w_isi_nt ?_
  | with_reducible refine L.w_isi_ns ?_
  | fail "w1")

namespace L
open PySem PySem.Spec PyProof.Rows L2 Z M DT
section
variable {K : PySem.W.Frag} {H H' : Hp}
mutual
theorem dp_tu : ∀ (d : PyData) (v : V), gdL d = true → Dp K H v d → Tu H H' → Dp K H' v d
  | .none, v, _, h, _ => by cases h; exact .non
  | .int i, v, _, h, _ => by cases h; exact .int i
  | .str x, v, _, h, _ => by cases h; exact .str x
  | .tuple xs, v, g, h, s => by
    cases h with
    | tup h1 h2 => exact .tup (sqT_tu h1 s) (dpAll_tu xs _ (by unfold gdL at g; rw [Bool.and_eq_true] at g; exact g.2) h2 s)
  | .bool _, v, g, _, _ => by cases g
  | .list _, v, g, _, _ => by cases g
  | .dict _, v, g, _, _ => by cases g
theorem dpAll_tu : ∀ (ds : List PyData) (vs : List V), gdLs ds = true → DpAll K H vs ds → Tu H H' → DpAll K H' vs ds
  | [], vs, _, h, _ => by cases h; exact .nil
  | d :: ds, vs, g, h, s => by
    unfold gdLs at g
    rw [Bool.and_eq_true] at g
    cases h with
    | cons h1 h2 => exact .cons (dp_tu d _ g.1 h1 s) (dpAll_tu ds _ g.2 h2 s)
end
theorem DpAll.len : ∀ {vs : List V} {ds : List PyData}, DpAll K H vs ds → vs.length = ds.length
  | _, _, .nil => rfl
  | _, _, .cons _ t => by rw [List.length_cons, List.length_cons, DpAll.len t]
theorem DpAll.get : ∀ {vs : List V} {ds : List PyData} {i : Nat} {v : V}, DpAll K H vs ds → vs[i]? = some v → ∃ d, ds[i]? = some d ∧ Dp K H v d
  | _, _, i, v, .nil, e => by simp at e
  | _, _, 0, v, .cons h t, e => by
    simp only [List.getElem?_cons_zero, Option.some.injEq] at e
    subst e
    exact ⟨_, rfl, h⟩
  | _, _, i + 1, v, .cons h t, e => by
    rw [List.getElem?_cons_succ] at e
    obtain ⟨d, h1, h2⟩ := DpAll.get (i := i) t e
    exact ⟨d, by rw [List.getElem?_cons_succ]; exact h1, h2⟩
theorem DpAll.app : ∀ {vs ws : List V} {ds es : List PyData}, DpAll K H vs ds → DpAll K H ws es → DpAll K H (vs ++ ws) (ds ++ es)
  | _, _, _, _, .nil, h => h
  | _, _, _, _, .cons h t, h2 => .cons h (DpAll.app t h2)
theorem DpAll.take {vs : List V} {ds : List PyData} : ∀ {vs : List V} {ds : List PyData} (n : Nat), DpAll K H vs ds → DpAll K H (vs.take n) (ds.take n)
  | _, _, n, .nil => by simp; exact .nil
  | _, _, 0, .cons h t => .nil
  | _, _, n + 1, .cons h t => .cons h (DpAll.take (vs := []) (ds := []) n t)
end
end L
namespace L
open PySem PySem.Spec PyProof.Rows L2 Z M DT
section
variable {P : Program} {w : World} {K : PySem.W.Frag} {mg : Str → Option Value} {base : Heap}
theorem depth_mem : ∀ {xs : List PyData} {x : PyData}, x ∈ xs → x.depth ≤ PyData.depthAll xs
  | y :: ys, x, h => by
    unfold PyData.depthAll
    rcases List.mem_cons.mp h with e | m
    · rw [e]; exact Nat.le_max_left _ _
    · exact Nat.le_trans (depth_mem m) (Nat.le_max_right _ _)
/-- the same data on both sides, of at most that depth -/
def spAlike (K : PySem.W.Frag) : Nat → Sp
  | 0 => fun _ _ _ _ => False
  | n + 1 => fun vs H Q _ => ∃ (x y : V) (d : PyData), vs = [x, y] ∧ Dp K H x d ∧ Dp K H y d ∧ gdL d = true ∧ d.depth ≤ n ∧ ∀ H', Same H H' → Q (.bl true) H'
theorem use_alike {n : Nat} {x y : V} {d : PyData} {H : Hp} {Q : VK} {E : XK} (h1 : Dp K H x d) (h2 : Dp K H y d) (h3 : gdL d = true) (h4 : d.depth ≤ n) (h : ∀ H', Same H H' → Q (.bl true) H') : spAlike K (n + 1) [x, y] H Q E := ⟨x, y, d, rfl, h1, h2, h3, h4, h⟩
theorem ok_alike (T : Txt K mg) : ∀ n, FnOk P w K mg base CX0 (n + 1) T.f_alike T.fd_alike ["_law_told", "_law_due"] (spAlike K n) := by
  intro n
  have G_whole := ok_whole (P := P) (w := w) (base := base) T
  induction n with
  | zero => exact T.F_alike.ok sc_alike (fun vs H Q E h => h.elim) (fun cdv A outer s H vs Q E hr h => h.elim)
  | succ n ih =>
    have G_alike := ih
    refine T.F_alike.ok sc_alike (fun vs H Q E h => ?_) (fun cdv A outer s H vs Q E hr h => ?_)
    · obtain ⟨x, y, d, rfl, _⟩ := h
      rfl
    · obtain ⟨x, y, d, rfl, hx, hy, hg, hd, h⟩ := h
      refine ⟨_, (pss_cons (ps_if (pt_val (pe_callB call_isi (by rfl) T.m_isinstance (by decide +kernel) (pa_cons (pv 1) (pa_cons (pe_bltn (v := .ty "tuple") (by rfl) T.m_tuple (by decide +kernel) rfl) pa_nil)))) (pss_cons (ps_if (PW.pt (pw_or (pt_not (pt_val (pe_callB call_isi (by rfl) T.m_isinstance (by decide +kernel) (pa_cons (pv 0) (pa_cons (pe_bltn (v := .ty "tuple") (by rfl) T.m_tuple (by decide +kernel) rfl) pa_nil))))) (pw_or1 (pt_cmpR op_ne (pe_callB call_len_seq (by rfl) T.m_len (by decide +kernel) (pa_cons (pv 0) pa_nil)) (pe_callB call_len_seq (by rfl) T.m_len (by decide +kernel) (pa_cons (pv 1) pa_nil)) (nomark _))))) (pss_one (ps_ret pe_bl)) pss_nil)
 (pss_one (ps_ret (pe_cmpR op_eq (pe_callB call_len_seq (by rfl) T.m_len (by decide +kernel) (pa_cons (pe_lc (own := [("_law_k", 2)]) (g := gName 2) (by rfl) sc_alike.nd (pi_range1 (by rfl) T.m_range (pa_cons (pe_callB call_len_seq (by rfl) T.m_len (by decide +kernel) (pa_cons (pv 1) pa_nil)) pa_nil)) (blkOk_by (own := [("_law_k", 2)]) (N := N_alike) (sc := defScope s_alike) (by decide +kernel)) (fun _ _ _ _ _ => pg_name (i := 2) sc_alike.nd rfl (Or.inl rfl)) (fun _ _ _ _ _ => pts_one (pt_not (pt_val (pe_call G_alike (hr.mono (by first | decide | omega)) (by rfl) T.g_alike T.F_alike.kp T.b_alike .nil pass0 (pa_cons (pe_ix (show IxR _ (rIxT K) from ix_tup) (pv 0) (pv 2) (fun _ _ => rfl)) (pa_cons (pe_ix (show IxR _ (rIxT K) from ix_tup) (pv 1) (pv 2) (fun _ _ => rfl)) pa_nil)))))) (fun _ _ _ _ _ => (pv 2))) pa_nil)) pe_int (nomark _))))) pss_nil)
 (pss_cons (ps_if (pt_cmpR op_isN (pv 1) pe_non (nomark _)) (pss_one (ps_ret (pe_cmpR op_isN (pv 0) pe_non (nomark _)))) pss_nil)
 (pss_cons (ps_if (pt_val (pe_callB call_isi (by rfl) T.m_isinstance (by decide +kernel) (pa_cons (pv 1) (pa_cons (pe_bltn (v := .ty "str") (by rfl) T.m_str (by decide +kernel) rfl) pa_nil)))) (pss_one (ps_ret (pe_and (pe_callB call_isi (by rfl) T.m_isinstance (by decide +kernel) (pa_cons (pv 0) (pa_cons (pe_bltn (v := .ty "str") (by rfl) T.m_str (by decide +kernel) rfl) pa_nil))) (pe_one (pe_cmpR op_eq (pv 0) (pv 1) (nomark _)))))) pss_nil)
 (pss_one (ps_ret (pe_and (pe_call G_whole (hr.mono (by first | decide | omega)) (by rfl) T.g_whole T.F_whole.kp T.b_whole .nil pass0 (pa_cons (pv 0) pa_nil)) (pe_one (pe_cmpR op_eq (pv 0) (pv 1) (nomark _))))))))), ?_⟩
      refine Z.w_start (σ' := [some x, some y, none]) rfl ?_
      cases hx with
      | bl b => cases hg
      | lst _ _ => cases hg
      | non =>
        cases hy
        walk_at "w"
        exact h _ (Same.refl _)
      | int i =>
        cases hy
        walk_at "w"
        have e : decide (V.int i = V.int i) = true := decide_eq_true rfl
        first | (rw [e]; exact h _ (Same.refl _)) | (rw [decide_eq_true rfl]; exact h _ (Same.refl _))
      | str i =>
        cases hy
        walk_at "w"
        have e : decide (V.str i = V.str i) = true := decide_eq_true rfl
        first | (rw [e]; exact h _ (Same.refl _)) | (rw [decide_eq_true rfl]; exact h _ (Same.refl _))
      | @tup a xs ds h1 h2 =>
        cases hy with
        | @tup b ys _ g1 g2 =>
          have e1 := DpAll.len h2
          have e2 := DpAll.len g2
          have hg2 : decide (ds.length ≤ 1000) = true ∧ gdLs ds = true := by unfold gdL at hg; exact Bool.and_eq_true_iff.mp hg
          have hgd := hg2.2
          have hlim := of_decide_eq_true hg2.1
          walk_at "w"
          refine ⟨by omega, by omega, fun D hD => ?_⟩
          refine lc_range (lo := 0) (n := _) (fun i H' => Same H H' ∧ H' D = some (.lst [])) ?_ ?_ ?_
          · exact ⟨same_of (Same.refl _) hD, upd_same⟩
          · rintro i H' hi ⟨sm, hc⟩
            rw [Int.toNat_natCast] at hi
            have hix : i < xs.length := by omega
            have hiy : i < ys.length := by omega
            obtain ⟨d1, k1, k2⟩ := DpAll.get h2 (List.getElem?_eq_getElem hix)
            obtain ⟨d2, k3, k4⟩ := DpAll.get g2 (List.getElem?_eq_getElem hiy)
            rw [k1] at k3
            obtain rfl := Option.some.inj k3
            have hm := List.mem_of_getElem? k1
            have a1 : atI xs (0 + (i : Int)) = some xs[i] := by rw [Int.zero_add]; exact atI_nat (List.getElem?_eq_getElem hix)
            have a2 : atI ys (0 + (i : Int)) = some ys[i] := by rw [Int.zero_add]; exact atI_nat (List.getElem?_eq_getElem hiy)
            have h1' := sqT_tu h1 (.ofS sm)
            have g1' := sqT_tu g1 (.ofS sm)
            refine Z.w_gname (σ' := [some (.ref a), some (.ref b), some (.int (0 + (i : Int)))]) rfl ⟨rfl, ?_⟩
            walk_at "w"
            obtain ⟨m, rfl⟩ : ∃ m, n = m + 1 := ⟨n - 1, by unfold PyData.depth at hd; omega⟩
            have hdep : d1.depth ≤ m := by
              have := depth_mem hm
              unfold PyData.depth at hd
              omega
            refine use_alike (dp_tu d1 _ (gdLs_mem hgd hm) k2 (.ofS sm)) (dp_tu d1 _ (gdLs_mem hgd hm) k4 (.ofS sm)) (gdLs_mem hgd hm) hdep fun H2 s2 => ?_
            walk_at "w"
            exact ⟨sm.trans s2, s2 _ _ hc⟩
          · rintro H' ⟨sm, hc⟩
            walk_at "w"
            exact h _ sm
end
end L

namespace L
open PySem PySem.Spec PyProof.Rows L2 Z M DT X2
open _root_.SX (S S_len S_inj)
section
variable {P : Program} {w : World} {K : PySem.W.Frag} {mg : Str → Option Value} {base : Heap}
theorem ok_wholeH (T : Txt K mg) : L2H.FnH P w K mg base CX0 1 T.f_whole T.fd_whole ["_law_value"] spWhole := by
  refine okH T.F_whole sc_whole (fun vs H Q E h => ?_) (fun cdv A outer s H vs Q E p hot hr h => ?_)
  · obtain ⟨i, rfl, _⟩ := h
    rfl
  · obtain ⟨i, rfl, hq⟩ := h
    refine ⟨_, (pss_one (ps_ret (pe_and (pe_callB call_isi (by rfl) T.m_isinstance (by decide +kernel) (pa_cons (pv 0) (pa_cons (pe_bltn (v := .ty "int") (by rfl) T.m_int (by decide +kernel) rfl) pa_nil))) (pe_one (pe_not (pe_callB call_isi (by rfl) T.m_isinstance (by decide +kernel) (pa_cons (pv 0) (pa_cons (pe_bltn (v := .ty "bool") (by rfl) T.m_bool (by decide +kernel) rfl) pa_nil)))))))), ?_⟩
    refine Z.w_start (σ' := [some (.int i)]) rfl ?_
    walk_at "w"
    exact hq
def spAlikeH : Sp := fun vs H Q _ => ∃ i : Int, vs = [.int i, .int i] ∧ Q (.bl true) H
theorem ok_alikeH (T : Txt K mg) : L2H.FnH P w K mg base CX0 2 T.f_alike T.fd_alike ["_law_told", "_law_due"] spAlikeH := by
  have GH_whole := ok_wholeH (P := P) (w := w) (base := base) T
  refine okH T.F_alike sc_alike (fun vs H Q E h => ?_) (fun cdv A outer s H vs Q E p hot hr h => ?_)
  · obtain ⟨i, rfl, _⟩ := h
    rfl
  · obtain ⟨i, rfl, h⟩ := h
    refine ⟨_, (pss_cons (ps_if (pt_val (pe_callB call_isi (by rfl) T.m_isinstance (by decide +kernel) (pa_cons (pv 1) (pa_cons (pe_bltn (v := .ty "tuple") (by rfl) T.m_tuple (by decide +kernel) rfl) pa_nil)))) (pss_cons ps_never (pss_one ps_never)) pss_nil)
 (pss_cons (ps_if (pt_cmpR op_isN (pv 1) pe_non (nomark _)) (pss_one (ps_ret (pe_cmpR op_isN (pv 0) pe_non (nomark _)))) pss_nil)
 (pss_cons (ps_if (pt_val (pe_callB call_isi (by rfl) T.m_isinstance (by decide +kernel) (pa_cons (pv 1) (pa_cons (pe_bltn (v := .ty "str") (by rfl) T.m_str (by decide +kernel) rfl) pa_nil)))) (pss_one (ps_ret (pe_and (pe_callB call_isi (by rfl) T.m_isinstance (by decide +kernel) (pa_cons (pv 0) (pa_cons (pe_bltn (v := .ty "str") (by rfl) T.m_str (by decide +kernel) rfl) pa_nil))) (pe_one (pe_cmpR op_eq (pv 0) (pv 1) (nomark _)))))) pss_nil)
 (pss_one (ps_ret (pe_and (L2H.pe_callH GH_whole (hr.mono (by first | decide | omega)) ⟨p, hot, List.mem_cons_self⟩ (by rfl) T.g_whole T.F_whole.kp T.b_whole X2.passH0 (pa_cons (pv 0) pa_nil)) (pe_one (pe_cmpR op_eq (pv 0) (pv 1) (nomark _))))))))), ?_⟩
    refine Z.w_start (σ' := [some (.int i), some (.int i), none]) rfl ?_
    walk_at "w"
    have e : decide (V.int i = V.int i) = true := decide_eq_true rfl
    first | (rw [e]; exact h) | (rw [decide_eq_true rfl]; exact h) | exact h
/-- a number that is no node's -/
def spAsk (P : Program) (w : World) (CB CN : Addr) : Sp := fun vs H Q E => ∃ (o : Addr) (t : BkO) (us : List Addr) (rs : List BRow) (n way : Int), vs = [.ref o, .int n, .int way] ∧ BkAt P w CB H o t us rs ∧ n.natAbs < 10 ^ 60 ∧ ¬ (1 ≤ n ∧ n ≤ rs.length) ∧ Refu CN n H E
theorem ok_asked (T : Txt K mg) : FnOk P w K mg base (L2N.CX P w) 5 T.f_asked T.fd_asked ["_law_bank", "_law_number_here", "_law_way"] (spAsk P w T.C_Bank T.C_BadNode) := by
  have G_Bank_node := ok_node (P := P) (w := w) (base := base) T
  have G_Bank_sort_of := ok_sortOf (P := P) (w := w) (base := base) T
  refine okN T.F_asked sc_asked (fun vs H Q E h => ?_) (fun cdv A outer s H vs Q E hr h => ?_)
  · obtain ⟨o, t, us, rs, n, way, rfl, _⟩ := h
    rfl
  · obtain ⟨o, t, us, rs, n, way, rfl, bk, hn, hno, h⟩ := h
    have hul := bk.len
    refine ⟨_, (pss_cons (ps_if (pt_cmpR op_eq (pv 2) pe_int (nomark _)) (pss_one (ps_ret (pe_meth (pv 0) T.cl_Bank T.M_Bank_node G_Bank_node (hr.mono (by first | decide | omega)) T.b_Bank_node .nil (L2N.passes_call (L2N.takes_of rfl rfl rfl rfl) fun _ _ _ _ h => h) (pa_cons (pv 1) pa_nil)))) pss_nil)
 (pss_one (ps_ret (pe_meth (pv 0) T.cl_Bank T.M_Bank_sort_of G_Bank_sort_of (hr.mono (by first | decide | omega)) T.b_Bank_sort_of .nil (L2N.passes_call (L2N.takes_of rfl rfl rfl rfl) fun _ _ _ _ h => h) (pa_cons (pv 1) pa_nil))))), ?_⟩
    refine Z.w_start (σ' := [some (.ref o), some (.int n), some (.int way)]) rfl ?_
    by_cases e : way = 0
    · subst e
      walk_at "w"
      refine w_meth0 bk.obj rfl (by rfl) ?_
      walk_at "w"
      exact ⟨o, t, us, rs, n, rfl, bk, hn, fun i a ei ea => absurd ⟨by omega, by have := (List.getElem?_eq_some_iff.mp ea).1; omega⟩ hno, fun _ => h⟩
    · walk_at "w"
      refine w_meth0 bk.obj rfl (by rfl) ?_
      walk_at "w"
      exact ⟨o, t, us, rs, n, rfl, bk, hn, fun i a ei ea => absurd ⟨by omega, by have := (List.getElem?_eq_some_iff.mp ea).1; omega⟩ hno, fun _ => h⟩
def spRefused (P : Program) (w : World) (CB : Addr) : Sp := fun vs H Q _ => ∃ (o : Addr) (t : BkO) (us : List Addr) (rs : List BRow) (n way : Int), vs = [.ref o, .int n, .int way] ∧ BkAt P w CB H o t us rs ∧ n.natAbs < 10 ^ 60 ∧ ¬ (1 ≤ n ∧ n ≤ rs.length) ∧ ∀ H', Same H H' → Q (.bl true) H'
theorem ok_refused (T : Txt K mg) : FnOk P w K mg base CX0 6 T.f_refused T.fd_refused ["_law_bank", "_law_number_here", "_law_way"] (spRefused P w T.C_Bank) := by
  have G_asked := ok_asked (P := P) (w := w) (base := base) T
  have GH_alike := ok_alikeH (P := P) (w := w) (base := base) T
  refine T.F_refused.ok sc_refused (fun vs H Q E h => ?_) (fun cdv A outer s H vs Q E hr h => ?_)
  · obtain ⟨o, t, us, rs, n, way, rfl, _⟩ := h
    rfl
  · obtain ⟨o, t, us, rs, n, way, rfl, bk, hn, hno, h⟩ := h
    refine ⟨_, (pss_cons (L2N.ps_try_as (i := 3)  rfl rfl sc_refused.nd rfl rfl ⟨rfl, by decide, .inl T.c_BadNode⟩ X2.takesN (fun W pn xe tk _ => (pss_one (ps_expr (pe_callS G_asked (hr.mono (by first | decide | omega)) (by rfl) T.g_asked T.F_asked.kp T.b_asked (fun σ => L2N.passAt tk σ) (by exact (pa_cons (pv 0) (pa_cons (pv 1) (pa_cons (pv 2) pa_nil)))))))) (fun a oe cls d pn hz hf => (pss_one (ps_ret (L2H.pe_callH GH_alike (X2.roomM (hr.mono (by first | decide | omega)) _) (X2.hot_of hz hf) (by rfl) T.g_alike T.F_alike.kp T.b_alike X2.passH0 (pa_cons (pe_xf T.xo_BadNode.xf T.xo_BadNode.no hz.zc hf (pv 3)) (pa_cons (pv 1) pa_nil)))))))
 (pss_one (ps_ret pe_bl))), ?_⟩
    refine Z.w_start (σ' := [some (.ref o), some (.int n), some (.int way), none]) rfl ?_
    walk_at "w"
    refine ⟨o, t, us, rs, n, way, rfl, bk, hn, hno, fun dd H' s1 hx => ⟨true, T.e_BadNode_BadNode, fun _ a ha => ?_, fun q => nomatch q⟩⟩
    refine Z.w_start (σ' := [some (.ref o), some (.int n), some (.int way), some (.ref a)]) rfl ?_
    walk_at "w"
    refine ⟨n, rfl, ?_⟩
    exact h _ (by walk_at "same")
theorem ok_refusedB (T : Txt K mg) : FnOk P w K mg base CX0 6 T.f_refused_by_base T.fd_refused_by_base ["_law_bank", "_law_number_here", "_law_way"] (spRefused P w T.C_Bank) := by
  have G_asked := ok_asked (P := P) (w := w) (base := base) T
  have GH_alike := ok_alikeH (P := P) (w := w) (base := base) T
  refine T.F_refused_by_base.ok sc_refused_by_base (fun vs H Q E h => ?_) (fun cdv A outer s H vs Q E hr h => ?_)
  · obtain ⟨o, t, us, rs, n, way, rfl, _⟩ := h
    rfl
  · obtain ⟨o, t, us, rs, n, way, rfl, bk, hn, hno, h⟩ := h
    refine ⟨_, (pss_cons (L2N.ps_try_as (i := 3)  rfl rfl sc_refused_by_base.nd rfl rfl ⟨rfl, by decide, .inl T.c_PaperError⟩ X2.takesN (fun W pn xe tk _ => (pss_one (ps_expr (pe_callS G_asked (hr.mono (by first | decide | omega)) (by rfl) T.g_asked T.F_asked.kp T.b_asked (fun σ => L2N.passAt tk σ) (by exact (pa_cons (pv 0) (pa_cons (pv 1) (pa_cons (pv 2) pa_nil)))))))) (fun a oe cls d pn hz hf => (pss_cons (ps_set (i := 4) sc_refused_by_base.nd rfl (.inl rfl) (pe_lst (pa_cons (pe_callB (X2.call_isX1 hz.zc hf) (by rfl) T.m_isinstance (by decide +kernel) (pa_cons (pv 3) (pa_cons (pe_glob (v := .ref T.C_BadRatio) (by rfl) T.c_BadRatio rfl) pa_nil))) (pa_cons (pe_callB (X2.call_isX1 hz.zc hf) (by rfl) T.m_isinstance (by decide +kernel) (pa_cons (pv 3) (pa_cons (pe_glob (v := .ref T.C_BadName) (by rfl) T.c_BadName rfl) pa_nil))) (pa_cons (pe_callB (X2.call_isX1 hz.zc hf) (by rfl) T.m_isinstance (by decide +kernel) (pa_cons (pv 3) (pa_cons (pe_glob (v := .ref T.C_NameTaken) (by rfl) T.c_NameTaken rfl) pa_nil))) (pa_cons (pe_callB (X2.call_isX1 hz.zc hf) (by rfl) T.m_isinstance (by decide +kernel) (pa_cons (pv 3) (pa_cons (pe_glob (v := .ref T.C_UnknownName) (by rfl) T.c_UnknownName rfl) pa_nil))) pa_nil))))))
 (pss_cons (ps_set (i := 4) sc_refused_by_base.nd rfl (.inl rfl) (pe_op op_cat (pv 4) (pe_lst (pa_cons (pe_callB (X2.call_isX1 hz.zc hf) (by rfl) T.m_isinstance (by decide +kernel) (pa_cons (pv 3) (pa_cons (pe_glob (v := .ref T.C_BadSort) (by rfl) T.c_BadSort rfl) pa_nil))) (pa_cons (pe_callB (X2.call_isX1 hz.zc hf) (by rfl) T.m_isinstance (by decide +kernel) (pa_cons (pv 3) (pa_cons (pe_glob (v := .ref T.C_BadText) (by rfl) T.c_BadText rfl) pa_nil))) (pa_cons (pe_callB (X2.call_isX1 hz.zc hf) (by rfl) T.m_isinstance (by decide +kernel) (pa_cons (pv 3) (pa_cons (pe_glob (v := .ref T.C_BadModel) (by rfl) T.c_BadModel rfl) pa_nil))) pa_nil))))))
 (pss_cons (ps_set (i := 4) sc_refused_by_base.nd rfl (.inl rfl) (pe_op op_cat (pv 4) (pe_lst (pa_cons (pe_callB (X2.call_isX1 hz.zc hf) (by rfl) T.m_isinstance (by decide +kernel) (pa_cons (pv 3) (pa_cons (pe_glob (v := .ref T.C_BadLiteral) (by rfl) T.c_BadLiteral rfl) pa_nil))) (pa_cons (pe_callB (X2.call_isX1 hz.zc hf) (by rfl) T.m_isinstance (by decide +kernel) (pa_cons (pv 3) (pa_cons (pe_glob (v := .ref T.C_NoLevel) (by rfl) T.c_NoLevel rfl) pa_nil))) (pa_cons (pe_callB (X2.call_isX1 hz.zc hf) (by rfl) T.m_isinstance (by decide +kernel) (pa_cons (pv 3) (pa_cons (pe_glob (v := .ref T.C_NoAnswer) (by rfl) T.c_NoAnswer rfl) pa_nil))) pa_nil))))))
 (pss_cons (ps_if (PW.pt (pw_or (pt_cmpR (show OpR _ _ (rIn K false) from op_in_seq) pe_bl (pv 4) rfl) (pw_or (pt_not (pt_val (pe_callB (X2.call_isX1 hz.zc hf) (by rfl) T.m_isinstance (by decide +kernel) (pa_cons (pv 3) (pa_cons (pe_glob (v := .ref T.C_BadNode) (by rfl) T.c_BadNode rfl) pa_nil))))) (pw_or1 (pt_not (pt_val (pe_callB (X2.call_isX1 hz.zc hf) (by rfl) T.m_isinstance (by decide +kernel) (pa_cons (pv 3) (pa_cons (pe_bltn (v := .ty "ValueError") (by rfl) T.m_ValueError (by decide +kernel) rfl) pa_nil))))))))) (pss_one (ps_ret pe_bl)) pss_nil)
 (pss_one (ps_ret (L2H.pe_callH GH_alike (X2.roomM (hr.mono (by first | decide | omega)) _) (X2.hot_of hz hf) (by rfl) T.g_alike T.F_alike.kp T.b_alike X2.passH0 (pa_cons (pe_xf T.xo_BadNode.xf T.xo_BadNode.no hz.zc hf (pv 3)) (pa_cons (pv 1) pa_nil)))))))))))
 (pss_one (ps_ret pe_bl))), ?_⟩
    refine Z.w_start (σ' := [some (.ref o), some (.int n), some (.int way), none, none]) rfl ?_
    walk_at "w"
    refine ⟨o, t, us, rs, n, way, rfl, bk, hn, hno, fun dd H' s1 hx => ⟨true, T.e_BadNode_PaperError, fun _ a ha => ?_, fun q => nomatch q⟩⟩
    refine Z.w_start (σ' := [some (.ref o), some (.int n), some (.int way), some (.ref a), none]) rfl ?_
    walk_at "w"
    refine w_isX1 T.xo_BadNode.xc (by walk_at "hp") (.own _) T.k_BadNode_BadRatio ?_
    walk_at "w"
    refine w_isX1 T.xo_BadNode.xc (by walk_at "hp") (.own _) T.k_BadNode_BadName ?_
    walk_at "w"
    refine w_isX1 T.xo_BadNode.xc (by walk_at "hp") (.own _) T.k_BadNode_NameTaken ?_
    walk_at "w"
    refine w_isX1 T.xo_BadNode.xc (by walk_at "hp") (.own _) T.k_BadNode_UnknownName ?_
    walk_at "w"
    refine w_isX1 T.xo_BadNode.xc (by walk_at "hp") (.own _) T.k_BadNode_BadSort ?_
    walk_at "w"
    refine w_isX1 T.xo_BadNode.xc (by walk_at "hp") (.own _) T.k_BadNode_BadText ?_
    walk_at "w"
    refine w_isX1 T.xo_BadNode.xc (by walk_at "hp") (.own _) T.k_BadNode_BadModel ?_
    walk_at "w"
    rename_i la ga lb gb
    refine w_catL (xs := [.bl false, .bl false, .bl false, .bl false]) (ys := [.bl false, .bl false, .bl false]) (by walk_at "hp") (by walk_at "hp") (by decide) fun c1 hc1 => ?_
    walk_at "w"
    refine w_isX1 T.xo_BadNode.xc (by walk_at "hp") (.own _) T.k_BadNode_BadLiteral ?_
    walk_at "w"
    refine w_isX1 T.xo_BadNode.xc (by walk_at "hp") (.own _) T.k_BadNode_NoLevel ?_
    walk_at "w"
    refine w_isX1 T.xo_BadNode.xc (by walk_at "hp") (.own _) T.k_BadNode_NoAnswer ?_
    walk_at "w"
    rename_i lc gc
    refine w_catL (xs := [.bl false, .bl false, .bl false, .bl false, .bl false, .bl false, .bl false]) (ys := [.bl false, .bl false, .bl false]) (by walk_at "hp") (by walk_at "hp") (by decide) fun c2 hc2 => ?_
    walk_at "w"
    refine w_opin (xs := [.bl false, .bl false, .bl false, .bl false, .bl false, .bl false, .bl false, .bl false, .bl false, .bl false]) (.inl (.inl (.inl upd_same))) rfl rfl ?_
    rw [show inV (.bl true) [.bl false, .bl false, .bl false, .bl false, .bl false, .bl false, .bl false, .bl false, .bl false, .bl false] = false from by decide]
    refine ⟨false, rfl, ?_⟩
    rw [if_neg (by decide)]
    walk_at "w"
    refine w_isX1 T.xo_BadNode.xc (by walk_at "hp") (.own _) T.k_BadNode_BadNode ?_
    walk_at "w"
    refine w_isX1 T.xo_BadNode.xc (by walk_at "hp") (.ty _) T.k_BadNode_ValueError ?_
    walk_at "w"
    refine ⟨n, rfl, ?_⟩
    exact h _ (by walk_at "same")
end
end L

namespace L
open PySem PySem.Spec PyProof.Rows L2 Z M DT
open _root_.SX (S S_len S_inj)
section
variable {P : Program} {w : World} {K : PySem.W.Frag} {mg : Str → Option Value} {base : Heap}
def spLenB (P : Program) (w : World) (CB : Addr) : Sp := fun vs H Q _ => ∃ (o : Addr) (t : BkO) (us : List Addr) (rs : List BRow), vs = [.ref o] ∧ BkAt P w CB H o t us rs ∧ Q (.int (rs.length : Int)) H
theorem ok_lenB (T : Txt K mg) : FnOk P w K mg base CX0 1 T.f_Bank_len T.fd_Bank_len ["self"] (spLenB P w T.C_Bank) := by
  refine T.F_Bank_len.ok sc_Bank_len (fun vs H Q E h => ?_) (fun cdv A outer s H vs Q E hr h => ?_)
  · obtain ⟨o, t, us, rs, rfl, _⟩ := h
    rfl
  · obtain ⟨o, t, us, rs, rfl, bk, h⟩ := h
    have hln := bk.ln
    have hul : (us.map V.ref).length = rs.length := by rw [List.length_map]; exact bk.len
    refine ⟨_, (pss_one (ps_ret (pe_callB call_len_seq (by rfl) T.m_len (by decide +kernel) (pa_cons (pe_fld (pv 0) rfl) pa_nil)))), ?_⟩
    refine Z.w_start (σ' := [some (.ref o)]) rfl ?_
    walk_at "w"
    refine w_fldT T.cl_Bank T.n_Bank__nodes bk.obj rfl ?_
    walk_at "w"
    rw [hul]
    exact h
def spIterB (P : Program) (w : World) (CB : Addr) : Sp := fun vs H Q _ => ∃ (o : Addr) (t : BkO) (us : List Addr) (rs : List BRow), vs = [.ref o] ∧ BkAt P w CB H o t us rs ∧ ∀ p, H p = none → Q (.ref p) (upd H p (ItO t.ln p 0))
theorem ok_iterB (T : Txt K mg) : FnOk P w K mg base CX0 1 T.f_Bank_iter T.fd_Bank_iter ["self"] (spIterB P w T.C_Bank) := by
  refine T.F_Bank_iter.ok sc_Bank_iter (fun vs H Q E h => ?_) (fun cdv A outer s H vs Q E hr h => ?_)
  · obtain ⟨o, t, us, rs, rfl, _⟩ := h
    rfl
  · obtain ⟨o, t, us, rs, rfl, bk, h⟩ := h
    have hln := bk.ln
    refine ⟨_, (pss_one (ps_ret (pe_callB call_iterL (by rfl) T.m_iter (by decide +kernel) (pa_cons (pe_fld (pv 0) rfl) pa_nil)))), ?_⟩
    refine Z.w_start (σ' := [some (.ref o)]) rfl ?_
    walk_at "w"
    refine w_fldT T.cl_Bank T.n_Bank__nodes bk.obj rfl ?_
    refine ⟨t.ln, _, rfl, .inl (.inl hln), fun p hp => ?_⟩
    walk_at "w"
    exact h p hp
theorem w_bankLen {CB o : Addr} {t : BkO} {us : List Addr} {rs : List BRow} {H : Hp} {Q : VK} (bk : BkAt P w CB H o t us rs) (hl : rs.length ≤ 500) (q : Q (.int rs.length) H) : OWN.rLenOwn CB (spLenB P w CB) [.ref o] H Q :=
  ⟨o, _, _, rfl, bk.obj, o, t, us, rs, rfl, bk, rs.length, rfl, Nat.lt_of_le_of_lt hl (by decide), q⟩
theorem w_bankList {CB o : Addr} {t : BkO} {us : List Addr} {rs : List BRow} {H : Hp} {Q : VK} (bk : BkAt P w CB H o t us rs) (hl : rs.length ≤ 500) (q : ∀ p H', H p = none → Same H H' → H' p = some (.lst (us.map V.ref)) → Q (.ref p) H') : OWN.rListIt K CB (spIterB P w CB) (spLenB P w CB) [.ref o] H Q := by
  have h1 := bk.obj
  have h2 := bk.ln
  have hul : (us.map V.ref).length = rs.length := by rw [List.length_map]; exact bk.len
  refine ⟨o, _, _, rfl, h1, fun p hp => ⟨o, t, us, rs, rfl, bk.same (same_of (Same.refl _) hp), fun it hit => ?_⟩⟩
  have s1 := same_of (Same.refl H) hp (o := .lst [])
  have npi : p ≠ it := fun e => by subst e; rw [upd_same] at hit; cases hit
  have hit0 : H it = none := by rw [upd_ne npi.symm] at hit; exact hit
  have s2 := same_of s1 hit (o := ItO t.ln it 0)
  have nlp : t.ln ≠ p := ne_of_none h2 hp
  have nli : t.ln ≠ it := ne_of_none h2 hit0
  refine ⟨t.ln, it, us.map V.ref, H, _, t.dx, rfl, rfl, nlp, nli, npi, by rw [hul]; exact Nat.le_trans hl (by decide), .inl (.inl h2), s2 _ _ h1, o, t, us, rs, rfl, bk.same s2, rs.length, rfl, Nat.lt_of_le_of_lt hl (by decide), rfl, fun j e => ?_, ?_⟩
  · have e1 : (rs.length : Int) = (j : Int) := V.int.inj e
    exact Nat.le_trans (show j ≤ 500 by omega) (by decide)
  · have hit2 : upd H p (.lst (us.map V.ref)) it = none := by rw [upd_ne npi.symm]; exact hit0
    refine q p _ hp (same_of (same_of (Same.refl _) hp) hit2) ?_
    rw [upd_ne npi, upd_same]
/-- the names of the functions, in their order -/
def spFuns (CS : Addr) : Sp := fun vs H Q _ => ∃ (o : Addr) (t : SgO) (ss : List Str) (fs : List FnRow), vs = [.ref o] ∧ SigAt CS H o t ss fs ∧ fs.length ≤ 1000 ∧ ∀ p H', Same H H' → H' p = some (.lst (fs.map fun r => V.str r.1)) → Q (.ref p) H'
theorem ok_functions (T : Txt K mg) : FnOk P w K mg base CX0 1 T.f_Signature_functions T.fd_Signature_functions ["self"] (spFuns T.C_Signature) := by
  refine T.F_Signature_functions.ok sc_Signature_functions (fun vs H Q E h => ?_) (fun cdv A outer s H vs Q E hr h => ?_)
  · obtain ⟨o, t, ss, fs, rfl, _⟩ := h
    rfl
  · obtain ⟨o, t, ss, fs, rfl, sg, hl, h⟩ := h
    obtain ⟨kf, hf, hv, hk⟩ := sg.fu
    refine ⟨_, (pss_one (ps_ret (pe_callTy (call_listD rfl) (by rfl) T.m_list (by decide +kernel) (pa_cons (pe_fld (pv 0) rfl) pa_nil)))), ?_⟩
    refine Z.w_start (σ' := [some (.ref o)]) rfl ?_
    walk_at "w"
    refine w_fldT T.cl_Signature T.n_Signature__functions sg.obj rfl ?_
    have hkl : kf.length = fs.length := by
      have := congrArg List.length hk
      rwa [List.length_map, List.length_map] at this
    refine Z.w_nil ⟨t.df, kf, rfl, .inl hf, fun p hp => ?_⟩
    have e : (kf.map fun kv => kV kv.1) = fs.map fun r => V.str r.1 := by
      have q := congrArg (List.map kV) hk
      rw [List.map_map, List.map_map] at q
      exact q
    exact h p _ (same_of (Same.refl _) hp) (by rw [upd_same, e])
/-! one node, told by the bank and by the model -/
theorem Good.row {rows : List WRow} {gs : List GRow} (gd : Good rows gs) {g : GRow} (h : g ∈ gs) : gdL (kD g.k) = true := by
  obtain ⟨h1, h2⟩ := gd g h
  exact gd_row (fit_gd h1.2) (by omega)
def spAt (P : Program) (w : World) (CB : Addr) : Sp := fun vs H Q _ => ∃ (o : Addr) (t : BkO) (us : List Addr) (gs : List GRow) (mo mn ms : Addr) (ws : List Addr) (rows : List WRow) (n : Int), vs = [.ref o, .ref mo, .int n] ∧ BkAt P w CB H o t us (gs.map GRow.b) ∧ MoAt H mo mn ms ws gs ∧ Good rows gs ∧ 1 ≤ n ∧ n ≤ (gs.length : Int) ∧ gs.length ≤ 500 ∧ ∀ H', Same H H' → Q (.bl true) H'
theorem ok_at (T : Txt K mg) : FnOk P w K mg base CX0 11 T.f_at T.fd_at ["_law_bank", "_law_model", "_law_number_here"] (spAt P w T.C_Bank) := by
  have G_Bank_has := ok_has (P := P) (w := w) (base := base) T
  have G_Bank_node := ok_node (P := P) (w := w) (base := base) T
  have G_Bank_sort_of := ok_sortOf (P := P) (w := w) (base := base) T
  have G_alike := ok_alike (P := P) (w := w) (base := base) T 9
  refine T.F_at.ok sc_at (fun vs H Q E h => ?_) (fun cdv A outer s H vs Q E hr h => ?_)
  · obtain ⟨o, t, us, gs, mo, mn, ms, ws, rows, n, rfl, _⟩ := h
    rfl
  · obtain ⟨o, t, us, gs, mo, mn, ms, ws, rows, n, rfl, bk, md, gd, hn1, hn2, hg5, h⟩ := h
    obtain ⟨i, rfl⟩ : ∃ i : Nat, n = (i : Int) + 1 := ⟨(n - 1).toNat, by omega⟩
    have hi : i < gs.length := by omega
    have hbl := bk.len
    rw [List.length_map] at hbl
    have eg : gs[i]? = some gs[i] := List.getElem?_eq_getElem hi
    have hgm := gd.row (List.getElem_mem hi)
    generalize gs[i] = g at eg hgm
    have eb : (gs.map GRow.b)[i]? = some g.b := by rw [List.getElem?_map, eg]; rfl
    have eu : us[i]? = some (us[i]'(by omega)) := List.getElem?_eq_getElem _
    have ew : ws[i]? = some (ws[i]'(by rw [md.len]; exact hi)) := List.getElem?_eq_getElem _
    generalize us[i]'(by omega) = u at eu
    generalize ws[i]'(by rw [md.len]; exact hi) = x at ew
    obtain ⟨nku, hdep⟩ := bk.nk i g.b u eb eu
    have nkx := md.nk i g x eg ew
    have emo := md.mo_
    have emn := md.mn_
    have ems := md.ms_
    refine ⟨_, (pss_cons (ps_if (PW.pt (pw_or (pt_cmpR op_notBl (pe_meth (pv 0) T.cl_Bank T.M_Bank_has G_Bank_has (hr.mono (by first | decide | omega)) T.b_Bank_has .nil pass0 (pa_cons (pv 2) pa_nil)) pe_bl (nomark _)) (pw_or1 (pt_not (pt_val (pe_call G_alike (hr.mono (by first | decide | omega)) (by rfl) T.g_alike T.F_alike.kp T.b_alike .nil pass0 (pa_cons (pe_meth (pv 0) T.cl_Bank T.M_Bank_node G_Bank_node (hr.mono (by first | decide | omega)) T.b_Bank_node .nil X2.passN (pa_cons (pv 2) pa_nil)) (pa_cons (pe_ix ix_list (pe_ix ix_list (pv 1) pe_int (fun _ _ => rfl)) (pe_op op_sub (pv 2) pe_int) (fun _ _ => rfl)) pa_nil)))))))) (pss_one (ps_ret pe_bl)) pss_nil)
 (pss_one (ps_ret (pe_call G_alike (hr.mono (by first | decide | omega)) (by rfl) T.g_alike T.F_alike.kp T.b_alike .nil pass0 (pa_cons (pe_meth (pv 0) T.cl_Bank T.M_Bank_sort_of G_Bank_sort_of (hr.mono (by first | decide | omega)) T.b_Bank_sort_of .nil X2.passN (pa_cons (pv 2) pa_nil)) (pa_cons (pe_ix ix_list (pe_ix ix_list (pv 1) pe_int (fun _ _ => rfl)) (pe_op op_sub (pv 2) pe_int) (fun _ _ => rfl)) pa_nil)))))), ?_⟩
    refine Z.w_start (σ' := [some (.ref o), some (.ref mo), some (.int ((i : Int) + 1))]) rfl ?_
    walk_at "w"
    refine w_meth0 bk.obj rfl (by rfl) ?_
    walk_at "w"
    refine ⟨o, t, us, _, _, rfl, bk, ?_⟩
    rw [decide_eq_true (show (1 : Int) ≤ (i : Int) + 1 ∧ (i : Int) + 1 ≤ ((gs.map GRow.b).length : Int) by rw [List.length_map]; omega)]
    walk_at "w"
    refine ⟨true, true, rfl, rfl, ?_⟩
    rw [show (!decide (true = true)) = false from rfl]
    walk_at "w"
    refine w_meth0 bk.obj rfl (by rfl) ?_
    walk_at "w"
    refine ⟨o, t, us, _, _, rfl, bk, by omega, fun i' a' ei ea => ?_, fun z => absurd (show (1 : Int) ≤ (i : Int) + 1 ∧ (i : Int) + 1 ≤ ((gs.map GRow.b).length : Int) by rw [List.length_map]; omega) z⟩
    obtain rfl : i' = i := by omega
    rw [eu] at ea
    obtain rfl := Option.some.inj ea
    have hat1 : atI (ws.map V.ref) ((i' : Int) + 1 - 1) = some (.ref x) := by
      rw [show (i' : Int) + 1 - 1 = (i' : Int) by omega]
      exact atI_nat (by rw [List.getElem?_map, ew]; rfl)
    have hat2 : atI (gs.map fun g => vS g.so) ((i' : Int) + 1 - 1) = some (vS g.so) := by
      rw [show (i' : Int) + 1 - 1 = (i' : Int) by omega]
      exact atI_nat (by rw [List.getElem?_map, eg]; rfl)
    walk_at "w"
    refine use_alike (nk_dp _ _ nku) (nk_dp _ _ nkx) hgm (Nat.le_trans (kD_dep _) hdep) fun H1 s1 => ?_
    have bk1 := bk.same s1
    have md1 := md.same s1
    have emo1 := md1.mo_
    have ems1 := md1.ms_
    walk_at "w"
    refine w_meth0 bk1.obj rfl (by rfl) ?_
    walk_at "w"
    refine ⟨o, t, us, _, _, rfl, bk1, by omega, fun i2 r2 ei er => ?_, fun z => absurd (show (1 : Int) ≤ (i' : Int) + 1 ∧ (i' : Int) + 1 ≤ ((gs.map GRow.b).length : Int) by rw [List.length_map]; omega) z⟩
    obtain rfl : i2 = i' := by omega
    rw [eb] at er
    obtain rfl := Option.some.inj er
    walk_at "w"
    exact use_alike (.str _) (.str _) rfl (Nat.zero_le _) fun H2 s2 => h H2 (s1.trans s2)
end
end L

namespace L
open PySem PySem.Spec PyProof.Rows L2 Z M DT
open _root_.SX (S S_len S_inj)
/-! bank and model side by side -/
structure LX where
  wb : Addr
  rb : Addr
  tg : SgO
  o : Addr
  t : BkO
  mo : Addr
  mn : Addr
  ms : Addr
def LX.mut (X : LX) : List Addr := [X.t.ln, X.t.ls, X.t.dn, X.mn, X.ms]
def LX.core (X : LX) : List Addr := [X.wb, X.rb, X.t.sg, X.tg.ds, X.tg.df, X.o, X.mo]
structure SAt (P : Program) (w : World) (CB CS Pt : Addr) (H : Hp) (X : LX) (ra : List Addr) (tl ot : List Nat) (rows : List WRow) (us ws : List Addr) (gs : List GRow) : Prop where
  wd : W3At H X.wb X.rb ra tl ot rows
  wo : WOk tl ot rows
  sg : SigAt CS H X.t.sg X.tg [S tl, S ot] (rows.map WRow.fn)
  bk : BkAt P w CB H X.o X.t us (gs.map GRow.b)
  mo : MoAt H X.mo X.mn X.ms ws gs
  tb : GxR.TabG H Pt
  gd : Good rows gs
  cm : ∀ b ∈ X.mut, b ∉ X.core
  nd : X.mut.Nodup
section
variable {P : Program} {w : World} {CB CS Pt : Addr} {H H' : Hp} {X : LX} {ra : List Addr} {tl ot : List Nat} {rows : List WRow} {us ws : List Addr} {gs : List GRow}
theorem SAt.ptn (h : SAt P w CB CS Pt H X ra tl ot rows us ws gs) : Pt ∉ X.core ∧ Pt ∉ X.mut := by
  have b := h.bk.tbl h.tb
  have s := h.sg.tbl h.tb
  have l : ∀ {a : Addr} {xs : List V}, H a = some (.lst xs) → Pt ≠ a := fun e => (tbl_ne h.tb e fun _ z => nomatch z).symm
  refine ⟨fun z => ?_, fun z => ?_⟩
  · simp only [LX.core, List.mem_cons, List.not_mem_nil, or_false] at z
    rcases z with z | z | z | z | z | z | z
    · exact l h.wd.w z
    · exact l h.wd.r z
    · exact s.1 z.symm
    · exact s.2.1 z.symm
    · exact s.2.2 z.symm
    · exact b.1 z.symm
    · exact l h.mo.mo_ z
  · simp only [LX.mut, List.mem_cons, List.not_mem_nil, or_false] at z
    rcases z with z | z | z | z | z
    · exact b.2.1 z.symm
    · exact b.2.2.1 z.symm
    · exact b.2.2.2 z.symm
    · exact l h.mo.mn_ z
    · exact l h.mo.ms_ z
theorem pool_ne {q a : Addr} {o : HO} (hp : PoolAt H q) (e : H a = some o) (n : ∀ l, o ≠ .lst l) : q ≠ a := fun z => by
  obtain ⟨o3, h3, c, k, b, s, rfl⟩ := hp
  rw [z, e] at h3
  exact n _ (Option.some.inj h3)
theorem pool_nd {q a : Addr} {kvs : List (NestedKey × V)} (hp : PoolAt H q) (n : ND.ND P w H a kvs) : q ≠ a := by
  rcases n with ⟨ts, _, e2, _⟩ | ⟨_, e2⟩
  · exact pool_ne hp e2 fun _ z => nomatch z
  · exact pool_ne hp e2 fun _ z => nomatch z
theorem strs_pool {α : Type} {q a : Addr} {f : α → Str} {xs : List α} (hp : PoolAt H q) (e : H a = some (.lst (xs.map fun x => V.str (f x)))) : a ≠ q := ne_pool hp e fun c k b s z => by
  cases xs with
  | nil => cases z
  | cons g gs =>
    rw [List.map_cons] at z
    injection z with z _
    cases z
theorem SAt.nq {q : Addr} (h : SAt P w CB CS Pt H X ra tl ot rows us ws gs) (hp : PoolAt H q) : q ∉ X.core ∧ q ∉ X.mut := by
  obtain ⟨ks, hs, _⟩ := h.sg.so
  obtain ⟨kf, hf, _⟩ := h.sg.fu
  obtain ⟨kvs, n1, _⟩ := h.bk.nums
  refine ⟨fun z => ?_, fun z => ?_⟩
  · simp only [LX.core, List.mem_cons, List.not_mem_nil, or_false] at z
    rcases z with z | z | z | z | z | z | z
    · exact (h.wd.nq hp).1 z.symm
    · exact (h.wd.nq hp).2 z.symm
    · exact pool_ne hp h.sg.obj (fun _ z => nomatch z) z
    · exact pool_ne hp hs (fun _ z => nomatch z) z
    · exact pool_ne hp hf (fun _ z => nomatch z) z
    · exact pool_ne hp h.bk.obj (fun _ z => nomatch z) z
    · exact ne_pool hp h.mo.mo_ (fun c k b s z => by cases z) z.symm
  · simp only [LX.mut, List.mem_cons, List.not_mem_nil, or_false] at z
    rcases z with z | z | z | z | z
    · exact refs_pool hp h.bk.ln z.symm
    · exact strs_pool hp h.bk.ls z.symm
    · exact pool_nd hp n1 z
    · exact refs_pool hp h.mo.mn_ z.symm
    · exact strs_pool hp h.mo.ms_ z.symm
theorem SAt.nt (h : SAt P w CB CS Pt H X ra tl ot rows us ws gs) : NoTup X.mut H := fun b hb ys e => by
  simp only [LX.mut, List.mem_cons, List.not_mem_nil, or_false] at hb
  rcases hb with z | z | z | z | z
  · rw [z, h.bk.ln] at e; cases e
  · rw [z, h.bk.ls] at e; cases e
  · exact h.bk.nt b (by rw [z]; simp) ys e
  · rw [z, h.mo.mn_] at e; cases e
  · rw [z, h.mo.ms_] at e; cases e
theorem SAt.ch {S' : List Addr} (h : SAt P w CB CS Pt H X ra tl ot rows us ws gs) (c : Ch S' H H') (m : NoTup S' H) (tb : GxR.TabG H' Pt) (n : ∀ b ∈ S', b ∉ X.core ∧ b ∉ X.mut) : SAt P w CB CS Pt H' X ra tl ot rows us ws gs :=
  have k : ∀ b ∈ S', ∀ z ∈ X.core, b ≠ z := fun b hb z hz e => (n b hb).1 (e ▸ hz)
  have u : ∀ b ∈ S', ∀ z ∈ X.mut, b ≠ z := fun b hb z hz e => (n b hb).2 (e ▸ hz)
  ⟨h.wd.ch c m fun b hb => ⟨k b hb _ (by simp [LX.core]), k b hb _ (by simp [LX.core])⟩, h.wo, h.sg.ch c m fun b hb => ⟨k b hb _ (by simp [LX.core]), k b hb _ (by simp [LX.core]), k b hb _ (by simp [LX.core])⟩,
    h.bk.ch c m fun b hb => ⟨k b hb _ (by simp [LX.core]), u b hb _ (by simp [LX.mut]), u b hb _ (by simp [LX.mut]), u b hb _ (by simp [LX.mut])⟩, h.mo.ch c m fun b hb => ⟨k b hb _ (by simp [LX.core]), u b hb _ (by simp [LX.mut]), u b hb _ (by simp [LX.mut])⟩, tb, h.gd, h.cm, h.nd⟩
theorem SAt.same (h : SAt P w CB CS Pt H X ra tl ot rows us ws gs) (c : Same H H') : SAt P w CB CS Pt H' X ra tl ot rows us ws gs :=
  h.ch (S' := []) (Ch.of c) (fun b hb => by cases hb) (TabG.keep h.tb fun o e => c _ _ e) (fun b hb => by cases hb)
theorem nt_pool {q : Addr} (hp : PoolAt H q) : NoTup [q] H := fun b hb ys e => tup_pool hp e (List.mem_singleton.mp hb)
theorem SAt.px {q : Addr} (h : SAt P w CB CS Pt H X ra tl ot rows us ws gs) (hp : PoolAt H q) (px : PX q H H') : SAt P w CB CS Pt H' X ra tl ot rows us ws gs :=
  h.ch (S' := [q]) (Ch.px px (List.mem_singleton.mpr rfl)) (nt_pool hp) (TabG.keep h.tb fun o e => px.3 _ _ (fun z => by
    obtain ⟨ps, hq, _⟩ := h.tb
    exact pool_ne hp hq (fun _ z => nomatch z) z.symm) e) fun b hb => by rw [List.mem_singleton.mp hb]; exact h.nq hp
theorem kept_uniq {op : List Nat} {ns ms ms' : List Int} (h : Kept op ns ms) (g : Kept op ns ms') : ms = ms' := by
  unfold Kept at h g
  by_cases e : op = EQU
  · rw [if_pos e] at h g
    exact (h.1.trans g.1.symm).eq_of_pairwise (fun a b _ _ h1 h2 => Int.le_antisymm h1 h2) h.2 g.2
  · rw [if_neg e] at h g
    rw [h, g]
theorem kept_self {op : List Nat} {ns ms : List Int} (h : Kept op ns ms) : Kept op ms ms := by
  unfold Kept at h ⊢
  by_cases e : op = EQU
  · rw [if_pos e] at h ⊢
    exact ⟨.refl _, h.2⟩
  · rw [if_neg e]
theorem kept_rev {op : List Nat} {ns ms : List Int} (e : op = EQU) (h : Kept op ns ms) : Kept op ms.reverse ms := by
  unfold Kept at h ⊢
  rw [if_pos e] at h ⊢
  exact ⟨(List.reverse_perm ms).symm, h.2⟩
theorem seekV_none {k : NestedKey} (h : k ∉ gs.map GRow.k) : seekV (gs.map GRow.b) k = 0 := by
  unfold seekV
  rw [keys_b, List.idxOf?_eq_none_iff.mpr h]
theorem seekV_some {k : NestedKey} {j : Nat} (h : (gs.map GRow.k).idxOf? k = some j) : seekV (gs.map GRow.b) k = (j : Int) + 1 := by
  unfold seekV
  rw [keys_b, h]
theorem seekV_in {k : NestedKey} (h : k ∈ gs.map GRow.k) : ∃ j : Nat, (gs.map GRow.k).idxOf? k = some j ∧ j < gs.length ∧ seekV (gs.map GRow.b) k = (j : Int) + 1 := by
  cases e : (gs.map GRow.k).idxOf? k with
  | none => exact absurd h (List.idxOf?_eq_none_iff.mp e)
  | some j =>
    have := (List.idxOf?_eq_some_iff.mp e).1
    rw [List.length_map] at this
    exact ⟨j, rfl, this, seekV_some e⟩
theorem seekV_put (g : GRow) : ∃ j : Nat, j < (putG gs g).length ∧ seekV ((putG gs g).map GRow.b) g.k = (j : Int) + 1 := by
  have hm : g.k ∈ (putG gs g).map GRow.k := by
    unfold putG
    by_cases e : g.k ∈ gs.map GRow.k
    · rw [if_pos e]; exact e
    · rw [if_neg e]; simp
  obtain ⟨j, _, h2, h3⟩ := seekV_in hm
  exact ⟨j, h2, h3⟩
theorem seekV_new {g : GRow} (h : g.k ∉ gs.map GRow.k) : seekV ((gs ++ [g]).map GRow.b) g.k = (gs.length : Int) + 1 := by
  have q := numOf_snoc (rs := gs.map GRow.b) (k := g.k) (j := g.k) (s := S g.so) (by rw [keys_b]; exact h)
  rw [if_pos rfl, List.length_map] at q
  have e := seekV_num ((gs ++ [g]).map GRow.b) g.k
  rw [List.map_append, show [g].map GRow.b = [(g.k, S g.so)] from rfl, q] at e
  rw [List.map_append]
  exact (V.int.inj e).symm
theorem Good.put {g : GRow} (gd : Good rows gs) (h : Fits rows gs g.op g.kv g.ns g.so) (hn : g.ns.length ≤ 14) : Good rows (putG gs g) := by
  unfold putG
  by_cases e : g.k ∈ gs.map GRow.k
  · rw [if_pos e]; exact gd
  · rw [if_neg e]
    intro x hx
    rcases List.mem_append.mp hx with hx | hx
    · exact ⟨(gd x hx).1.app, (gd x hx).2⟩
    · rw [List.mem_singleton.mp hx]
      exact ⟨h.app, hn⟩
theorem fits_shp (wo : WOk tl ot rows) {op : List Nat} {kv : NestedKey} {ns ms : List Int} {so : List Nat} (h : Fits rows gs op kv ns so) : (kD (nkey op kv ms)).canLay0 = true ∧ (nkey op kv ms).depth ≤ 8 := by
  obtain ⟨h1, h2⟩ := fit_lay wo.nlt h.2
  exact ⟨row_lay h1 h2, dep_node (fit_kv h.2)⟩
theorem Good.shp (wo : WOk tl ot rows) (gd : Good rows gs) : ∀ k ∈ gs.map GRow.k, (kD k).canLay0 = true ∧ k.depth ≤ 8 := fun k hk => by
  obtain ⟨g, hg, rfl⟩ := List.mem_map.mp hk
  exact fits_shp wo (gd g hg).1
theorem mo_dp {K : PySem.W.Frag} : ∀ {ws : List Addr} {gs : List GRow}, ws.length = gs.length → (∀ (i : Nat) (g : GRow) (a : Addr), gs[i]? = some g → ws[i]? = some a → ND.nk H g.k (.ref a)) → DpAll K H (ws.map V.ref) ((gs.map GRow.k).map kD)
  | [], [], _, _ => .nil
  | [], _ :: _, h, _ => by cases h
  | _ :: _, [], h, _ => by cases h
  | u :: us, g :: gs, h, f => .cons (nk_dp _ _ (f 0 g u rfl rfl)) (mo_dp (Nat.succ.inj h) fun i g' a e1 e2 => f (i + 1) g' a e1 e2)
theorem MoAt.dp {K : PySem.W.Frag} {mo mn ms : Addr} (h : MoAt H mo mn ms ws gs) : Dp K H (.ref mn) (.list ((gs.map GRow.k).map kD)) := .lst (.inl (.inl h.mn_)) (mo_dp h.len h.nk)
end
end L

local macro_rules | `(tactic| walk_at "w1") => `(tactic| first
  | with_reducible refine MT.w_rEqS ?_
  | with_reducible refine MT.w_rNeS ?_
  | fail "w1")

namespace L
open PySem PySem.Spec PyProof.Rows L2 Z M DT
open _root_.SX (S S_len S_inj)
section
variable {P : Program} {w : World} {K : PySem.W.Frag} {mg : Str → Option Value} {base : Heap}
theorem hu65 {A : Around} {k : Nat} (hr : Room k A) : A.units + 65 < cLine := by
  have := hr.un
  omega
theorem dpz {K : PySem.W.Frag} {H : Hp} : ∀ zs : List Int, DpAll K H (zs.map V.int) (zs.map PyData.int)
  | [] => .nil
  | z :: zs => .cons (.int z) (dpz zs)
theorem eqvz : ∀ zs : List Int, PyData.eqvAll (zs.map PyData.int) (zs.map PyData.int) = true
  | [] => by simp [PyData.eqvAll]
  | z :: zs => by
    rw [List.map_cons, PyData.eqvAll, eqvz zs]
    simp [PyData.eqv]
theorem layz : ∀ zs : List Int, PyData.canLayAll0 (zs.map PyData.int) = true ∧ PyData.depthAll (zs.map PyData.int) ≤ 1
  | [] => ⟨rfl, by simp [PyData.depthAll]⟩
  | z :: zs => by
    obtain ⟨h1, h2⟩ := layz zs
    rw [List.map_cons]
    refine ⟨by rw [PyData.canLayAll0, h1]; simp [PyData.canLay0], ?_⟩
    simp only [PyData.depthAll, PyData.depth]
    omega
theorem shz (zs : List Int) (_ : zs.length ≤ 50) : SeqAt.shaped (.list (zs.map PyData.int)) = true := by
  obtain ⟨h1, h2⟩ := layz zs
  unfold SeqAt.shaped
  rw [show (PyData.list (zs.map PyData.int)).canLay0 = PyData.canLayAll0 (zs.map PyData.int) by rw [PyData.canLay0], h1, decide_eq_true (show (PyData.list (zs.map PyData.int)).depth ≤ 64 by rw [PyData.depth]; omega)]
  rfl
theorem ne_intsL {K : PySem.W.Frag} {H : Hp} {a b : Addr} {ns : List Int} {Q : VK} (ha : H a = some (.lst (ns.map V.int))) (hb : H b = some (.lst (ns.map V.int))) (hl : ns.length ≤ 50) (q : Q (.bl false) H) : rNeD K (.ref a) (.ref b) H Q := by
  refine ⟨.list (ns.map PyData.int), .list (ns.map PyData.int), .lst (.inl (.inl ha)) (dpz ns), .lst (.inl (.inl hb)) (dpz ns), shz ns hl, shz ns hl, ?_⟩
  have e : PyData.eqv (.list (ns.map PyData.int)) (.list (ns.map PyData.int)) = true := by
    rw [PyData.eqv]
    exact eqvz ns
  rw [e]
  exact q
theorem SAt.live {CB CS Pt : Addr} {H : Hp} {X : LX} {ra : List Addr} {tl ot : List Nat} {rows : List WRow} {us ws : List Addr} {gs : List GRow} {q : Addr} (h : SAt P w CB CS Pt H X ra tl ot rows us ws gs) (hp : PoolAt H q) : ∀ b ∈ q :: Pt :: X.mut, ∃ o, H b = some o := fun b hb => by
  obtain ⟨kvs, n1, _⟩ := h.bk.nums
  simp only [LX.mut, List.mem_cons, List.not_mem_nil, or_false] at hb
  rcases hb with z | z | z | z | z | z | z
  · obtain ⟨o, ho, _⟩ := hp
    exact ⟨o, by rw [z]; exact ho⟩
  · obtain ⟨ps, ho, _⟩ := h.tb
    exact ⟨_, by rw [z]; exact ho⟩
  · exact ⟨_, by rw [z]; exact h.bk.ln⟩
  · exact ⟨_, by rw [z]; exact h.bk.ls⟩
  · rcases n1 with ⟨ts, _, e2, _⟩ | ⟨_, e2⟩
    · exact ⟨_, by rw [z]; exact e2⟩
    · exact ⟨_, by rw [z]; exact e2⟩
  · exact ⟨_, by rw [z]; exact h.mo.mn_⟩
  · exact ⟨_, by rw [z]; exact h.mo.ms_⟩
theorem SAt.liveC {CB CS Pt : Addr} {H : Hp} {X : LX} {ra : List Addr} {tl ot : List Nat} {rows : List WRow} {us ws : List Addr} {gs : List GRow} (h : SAt P w CB CS Pt H X ra tl ot rows us ws gs) : ∀ b ∈ X.core, ∃ o, H b = some o := fun b hb => by
  obtain ⟨ks, hs, _⟩ := h.sg.so
  obtain ⟨kf, hf, _⟩ := h.sg.fu
  simp only [LX.core, List.mem_cons, List.not_mem_nil, or_false] at hb
  rcases hb with z | z | z | z | z | z | z
  · exact ⟨_, by rw [z]; exact h.wd.w⟩
  · exact ⟨_, by rw [z]; exact h.wd.r⟩
  · exact ⟨_, by rw [z]; exact h.sg.obj⟩
  · exact ⟨_, by rw [z]; exact hs⟩
  · exact ⟨_, by rw [z]; exact hf⟩
  · exact ⟨_, by rw [z]; exact h.bk.obj⟩
  · exact ⟨_, by rw [z]; exact h.mo.mo_⟩
theorem w_isiL_l {K : PySem.W.Frag} {H : Hp} {p : Addr} {xs : List V} {Q : VK} (h : H p = some (.lst xs)) (q : Q (.bl true) H) : rIsi K [.ref p, .ty "list"] H Q := Z.w_isi (.ty _) (.base (.lst h)) (kit_ty (by decide +kernel)) q
theorem w_isiT_l {K : PySem.W.Frag} {H : Hp} {p : Addr} {xs : List V} {Q : VK} (h : SqT K H p xs) (q : Q (.bl false) H) : rIsi K [.ref p, .ty "list"] H Q := Z.w_isi (.ty _) (tyx_T h) (kit_ty (by decide +kernel)) q
theorem refs_ints {ws : List Addr} {ns : List Int} (h : 1 ≤ ws.length) : ws.map V.ref ≠ ns.map V.int := fun z => by
  match ws, ns, h, z with
  | a :: ws, n :: ns, _, z => injection z with z _; cases z
  | a :: ws, [], _, z => cases z
theorem strs_ints {α : Type} {f : α → Str} {ws : List α} {ns : List Int} (h : 1 ≤ ws.length) : (ws.map fun x => V.str (f x)) ≠ ns.map V.int := fun z => by
  match ws, ns, h, z with
  | a :: ws, n :: ns, _, z => injection z with z _; cases z
  | a :: ws, [], _, z => cases z
theorem SAt.ints {CB CS Pt : Addr} {H : Hp} {X : LX} {ra : List Addr} {tl ot : List Nat} {rows : List WRow} {us ws : List Addr} {gs : List GRow} {pl : Addr} {ns : List Int} (h : SAt P w CB CS Pt H X ra tl ot rows us ws gs) (h1 : 1 ≤ gs.length) (e : H pl = some (.lst (ns.map V.int))) : pl ∉ X.mut := fun hb => by
  obtain ⟨kvs, n1, _⟩ := h.bk.nums
  have hbl := h.bk.len
  rw [List.length_map] at hbl
  simp only [LX.mut, List.mem_cons, List.not_mem_nil, or_false] at hb
  have inj : ∀ {b : Addr} {xs : List V}, H b = some (.lst xs) → pl = b → xs = ns.map V.int := fun e2 z => by
    rw [z, e2] at e
    have e := Option.some.inj e
    injection e
  rcases hb with z | z | z | z | z
  · exact refs_ints (by omega) (inj h.bk.ln z)
  · exact strs_ints (by rw [List.length_map]; exact h1) (inj h.bk.ls z)
  · exact nd_ne n1 e z
  · exact refs_ints (by rw [h.mo.len]; exact h1) (inj h.mo.mn_ z)
  · exact strs_ints h1 (inj h.mo.ms_ z)
theorem w_revLs {K : PySem.W.Frag} {te : TE} {σ : L2.St} {H : Hp} {Q : VK} (h : te σ H fun x H1 => ∃ a xs, x = .ref a ∧ SqL K H1 a xs ∧ ∀ p, H1 p = none → Q (.ref p) (upd H1 p (.lst xs.reverse))) : tRevL K te σ H Q := h
def spStep (P : Program) (w : World) (CB CS Pt : Addr) : Sp := fun vs H Q _ => ∃ (q pm : Addr) (X : LX) (ra : List Addr) (tl ot : List Nat) (rows : List WRow) (us ws : List Addr) (gs : List GRow), vs = [.ref q, .ref X.wb, .ref X.o, .ref X.mo, .ref pm] ∧ PoolAt H q ∧ SAt P w CB CS Pt H X ra tl ot rows us ws gs ∧ MkRow rows gs H pm ∧ 1 ≤ gs.length ∧ gs.length ≤ 400 ∧
  ∀ H' us' ws' g, Ch (q :: Pt :: X.mut) H H' → SAt P w CB CS Pt H' X ra tl ot rows us' ws' (putG gs g) → PoolAt H' q → Q (.bl true) H'
theorem ok_step (T : Txt K mg) (W : Tw K mg T w) (TB : GxR.TabB base mg T.c_ao T.P_ao) : FnOk P w K mg base CX0 12 T.f_step T.fd_step ["_law_pool_here", "_law_world_here", "_law_bank", "_law_model", "_law_making_here"] (spStep P w T.C_Bank T.C_Signature T.P_ao) := by
  have G_take := ok_take (P := P) (w := w) (base := base) T
  have G_node := ok_nodeL (P := P) (w := w) (base := base) T
  have G_node_sort := ok_nodeSort (P := P) (w := w) (base := base) T
  have G_Bank_seek := ok_seek (P := P) (w := w) (base := base) T
  have G_Bank_make := ok_make (P := P) (base := base) T W TB
  have G_Bank_len := ok_lenB (P := P) (w := w) (base := base) T
  have G_alike := ok_alike (P := P) (w := w) (base := base) T 1
  have G_at := ok_at (P := P) (w := w) (base := base) T
  refine T.F_step.ok sc_step (fun vs H Q E h => ?_) (fun cdv A outer s H vs Q E hr h => ?_)
  · obtain ⟨q, pm, X, ra, tl, ot, rows, us, ws, gs, rfl, _⟩ := h
    rfl
  · obtain ⟨q, pm, X, ra, tl, ot, rows, us, ws, gs, rfl, hp, sa, ⟨op, val, pl, kv, ns, so, e1, e2, hkv, hfit, hnl⟩, hg1, hgl, h⟩ := h
    have hkd := fit_kv hfit.2
    refine ⟨_, (pss_cons (ps_asg (pv 4) (pg_tup (by rfl) (pgs_cons (pg_name (i := 5) sc_step.nd rfl (.inl rfl)) (pgs_cons (pg_name (i := 6) sc_step.nd rfl (.inl rfl)) (pgs_cons (pg_name (i := 7) sc_step.nd rfl (.inl rfl)) pgs_nil)))))
 (pss_cons (ps_set (i := 8) sc_step.nd rfl (.inl rfl) (pe_call G_node (hr.mono (by first | decide | omega)) (by rfl) T.g_node T.F_node.kp T.b_node .nil pass0 (pa_cons (pv 4) pa_nil)))
 (pss_cons (ps_set (i := 9) sc_step.nd rfl (.inl rfl) pe_int)
 (pss_cons (ps_if (pt_cmpR (op_inD (hu65 hr)) (pv 8) (pe_ix ix_list (pv 3) pe_int (fun _ _ => rfl)) rfl) (pss_one (ps_set (i := 9) sc_step.nd rfl (.inl rfl) (pe_op op_add (pe_bm PySem.F.plainAttrs_list PySem.F.slot_list_index PySem.F.type_list_index (mt_indexD (hu65 hr)) (pe_ix ix_list (pv 3) pe_int (fun _ _ => rfl)) (pa_cons (pv 8) pa_nil)) pe_int))) pss_nil)
 (pss_cons (ps_set (i := 10) sc_step.nd rfl (.inl rfl) (pe_callTy call_tuple_of (by rfl) T.m_tuple (by decide +kernel) (pa_cons (pv 7) pa_nil)))
 (pss_cons (ps_if (pt_cmpR op_eq (pe_call G_take (hr.mono (by first | decide | omega)) (by rfl) T.g_take T.F_take.kp T.b_take .nil pass0 (pa_cons (pv 0) (pa_cons pe_int pa_nil))) pe_int (nomark _)) (pss_one (ps_set (i := 10) sc_step.nd rfl (.inl rfl) (pe_callTy call_list_of (by rfl) T.m_list (by decide +kernel) (pa_cons (pv 7) pa_nil)))) pss_nil)
 (pss_cons (ps_if (PW.pt (pw_or (pt_not (pt_val (pe_call G_alike (hr.mono (by first | decide | omega)) (by rfl) T.g_alike T.F_alike.kp T.b_alike .nil pass0 (pa_cons (pe_meth (pv 2) T.cl_Bank T.M_Bank_seek G_Bank_seek (hr.mono (by first | decide | omega)) T.b_Bank_seek .nil pass0 (pa_cons (pv 5) (pa_cons (pv 6) (pa_cons (pv 10) pa_nil)))) (pa_cons (pv 9) pa_nil))))) (pw_or1 (pt_cmpR op_ne (pe_callB (OWN.call_lenOwn T.ln_Bank G_Bank_len T.b_Bank_len (hr.mono (by first | decide | omega))) (by rfl) T.m_len (by decide +kernel) (pa_cons (pv 2) pa_nil)) (pe_callB call_len_seq (by rfl) T.m_len (by decide +kernel) (pa_cons (pe_ix ix_list (pv 3) pe_int (fun _ _ => rfl)) pa_nil)) (nomark _))))) (pss_one (ps_ret pe_bl)) pss_nil)
 (pss_cons (ps_if (pt_cmpR op_eq (pv 9) pe_int (nomark _)) (pss_cons (ps_expr (pe_bm PySem.F.plainAttrs_list PySem.F.slot_list_append PySem.F.type_list_append mt_append (pe_ix ix_list (pv 3) pe_int (fun _ _ => rfl)) (pa_cons (pe_call G_node_sort (hr.mono (by first | decide | omega)) (by rfl) T.g_node_sort T.F_node_sort.kp T.b_node_sort .nil pass0 (pa_cons (pv 1) (pa_cons (pv 4) (pa_cons (pe_ix ix_list (pv 3) pe_int (fun _ _ => rfl)) pa_nil)))) pa_nil)))
 (pss_cons (ps_expr (pe_bm PySem.F.plainAttrs_list PySem.F.slot_list_append PySem.F.type_list_append mt_append (pe_ix ix_list (pv 3) pe_int (fun _ _ => rfl)) (pa_cons (pv 8) pa_nil)))
 (pss_one (ps_set (i := 9) sc_step.nd rfl (.inl rfl) (pe_callB call_len_seq (by rfl) T.m_len (by decide +kernel) (pa_cons (pe_ix ix_list (pv 3) pe_int (fun _ _ => rfl)) pa_nil)))))) pss_nil)
 (pss_cons (ps_if (PW.pt (pw_or (pt_not (pt_val (pe_call G_alike (hr.mono (by first | decide | omega)) (by rfl) T.g_alike T.F_alike.kp T.b_alike .nil pass0 (pa_cons (pe_meth (pv 2) T.cl_Bank T.M_Bank_make G_Bank_make (hr.mono (by first | decide | omega)) T.b_Bank_make .nil pass0 (pa_cons (pv 5) (pa_cons (pv 6) (pa_cons (pv 10) pa_nil)))) (pa_cons (pv 9) pa_nil))))) (pw_or1 (pt_cmpR (op_neD hr.units) (pe_callTy call_list_of (by rfl) T.m_list (by decide +kernel) (pa_cons (pv 10) pa_nil)) (pv 7) (nomark _))))) (pss_one (ps_ret pe_bl)) pss_nil)
 (pss_cons (ps_if (pt_val (pe_callB call_isi (by rfl) T.m_isinstance (by decide +kernel) (pa_cons (pv 10) (pa_cons (pe_bltn (v := .ty "list") (by rfl) T.m_list (by decide +kernel) rfl) pa_nil)))) (pss_cons (ps_expr (pe_bm PySem.F.plainAttrs_list PySem.F.slot_list_append PySem.F.type_list_append mt_append (pv 10) (pa_cons pe_int pa_nil)))
 (pss_one (ps_asg pe_int (pg_sub (pv 10) pe_int set_list)))) pss_nil)
 (pss_cons (ps_set (i := 11) sc_step.nd rfl (.inl rfl) (pe_callTy call_list_of (by rfl) T.m_list (by decide +kernel) (pa_cons (pe_ix ix_tup (pv 8) pe_int (fun _ _ => rfl)) pa_nil)))
 (pss_cons (ps_if (pt_cmpR op_eq (pv 5) (MT.pe_strS (l := [101, 113, 117, 97, 108]) (by decide +kernel)) (nomark _)) (pss_one (ps_set (i := 11) sc_step.nd rfl (.inl rfl) (pe_revL (pv 11)))) pss_nil)
 (pss_cons (ps_if (PW.pt (pw_or (pt_not (pt_val (pe_call G_alike (hr.mono (by first | decide | omega)) (by rfl) T.g_alike T.F_alike.kp T.b_alike .nil pass0 (pa_cons (pe_meth (pv 2) T.cl_Bank T.M_Bank_seek G_Bank_seek (hr.mono (by first | decide | omega)) T.b_Bank_seek .nil pass0 (pa_cons (pv 5) (pa_cons (pv 6) (pa_cons (pv 11) pa_nil)))) (pa_cons (pv 9) pa_nil))))) (pw_or1 (pt_cmpR op_ne (pe_callB (OWN.call_lenOwn T.ln_Bank G_Bank_len T.b_Bank_len (hr.mono (by first | decide | omega))) (by rfl) T.m_len (by decide +kernel) (pa_cons (pv 2) pa_nil)) (pe_callB call_len_seq (by rfl) T.m_len (by decide +kernel) (pa_cons (pe_ix ix_list (pv 3) pe_int (fun _ _ => rfl)) pa_nil)) (nomark _))))) (pss_one (ps_ret pe_bl)) pss_nil)
 (pss_one (ps_ret (pe_call G_at (hr.mono (by first | decide | omega)) (by rfl) T.g_at T.F_at.kp T.b_at .nil pass0 (pa_cons (pv 2) (pa_cons (pv 3) (pa_cons (pv 9) pa_nil))))))))))))))))))), ?_⟩
    refine Z.w_start (σ' := [some (.ref q), some (.ref X.wb), some (.ref X.o), some (.ref X.mo), some (.ref pm), none, none, none, none, none, none, none]) rfl ?_
    walk_at "w"
    refine ⟨pm, pl, op, val, kv, ns, rfl, e1, e2, hkv, (fun e => by subst e; exact hfit.two), hnl, fun H1 p pa ms s1 ep epa hk => ?_⟩
    have sa1 := sa.same s1
    have hp1 := hp.same s1
    have e11 := s1 _ _ e1
    have e21 := s1 _ _ e2
    have hkv1 : ND.nk H1 kv val := ND.nk_keep (fun b ys e => s1 _ _ e) _ _ hkv
    have c1 : Ch (q :: T.P_ao :: X.mut) H H1 := Ch.of s1
    have hml : ms.length = ns.length := hk.len
    have nkP : ND.nk H1 (nkey op kv ms) (.ref p) := nk_node ep hkv1 epa
    have shp1 := fits_shp (ms := ms) sa.wo hfit
    have shpL := shaped_rows (sa.gd.shp sa.wo)
    have shpK := shaped_row shp1.1 shp1.2
    have emo := sa1.mo.mo_
    have emn := sa1.mo.mn_
    have dL : Dp K H1 (.ref X.mn) (.list ((gs.map GRow.k).map kD)) := sa1.mo.dp
    have dK : Dp K H1 (.ref p) (kD (nkey op kv ms)) := nk_dp _ _ nkP
    repeat' (first | with_reducible refine seqIf (fun σ' H2 => σ' = [some (.ref q), some (.ref X.wb), some (.ref X.o), some (.ref X.mo), some (.ref pm), some (vS op), some val, some (.ref pl), some (.ref p), some (.int (seekV (gs.map GRow.b) (nkey op kv ms))), none, none] ∧ H1 = H2) (fun Rk kk => ?_) ?_ | walk_at "w1")
    · refine ⟨kD (nkey op kv ms), _, dK, dL, shpK, shpL, ?_⟩
      rw [any_row]
      by_cases hin : nkey op kv ms ∈ gs.map GRow.k
      · rw [decide_eq_true hin]
        obtain ⟨j, hj1, hj2, hj3⟩ := seekV_in hin
        obtain ⟨k1, k2, k3⟩ := List.idxOf?_eq_some_iff.mp hj1
        walk_at "w"
        refine Z.w_bm ?_
        walk_at "w"
        refine Z.w_tyL emn ?_
        walk_at "w"
        refine ⟨X.mn, .ref p, kD (nkey op kv ms), _, j, kD (nkey op kv ms), rfl, rfl, dL, dK, shpL, shpK, by rw [List.getElem?_map, List.getElem?_eq_getElem k1, k2]; rfl, by rw [kD_eqv, decide_eq_true rfl], fun m z' hm hz => ?_, ?_⟩
        · have hm2 : m < (gs.map GRow.k).length := Nat.lt_trans hm k1
          rw [List.getElem?_map, List.getElem?_eq_getElem hm2] at hz
          obtain rfl := Option.some.inj hz
          rw [kD_eqv]
          exact decide_eq_false (k3 m hm)
        · walk_at "w"
          exact kk _ _ ⟨by rw [hj3], rfl⟩
      · rw [decide_eq_false hin]
        walk_at "w"
        exact kk _ _ ⟨by rw [seekV_none hin], rfl⟩
    rintro _ _ ⟨rfl, rfl⟩
    walk_at "w"
    refine ⟨pl, _, rfl, .inl ⟨.inl (.inl e21), fun p1 g1 => ?_⟩⟩
    have s2 : Same H1 (upd H1 p1 (.tup (ns.map V.int))) := same_of (Same.refl _) g1
    have eh2 : upd H1 p1 (.tup (ns.map V.int)) p1 = some (.tup (ns.map V.int)) := upd_same
    have fh1 : H p1 = none := fresh_of1 s1 g1
    have hp2 := hp1.same s2
    generalize upd H1 p1 (.tup (ns.map V.int)) = H2 at s2 eh2 hp2 ⊢
    have e22 := s2 _ _ e21
    repeat' (first | with_reducible refine seqIf (fun σ' H3 => ∃ hd, σ' = [some (.ref q), some (.ref X.wb), some (.ref X.o), some (.ref X.mo), some (.ref pm), some (vS op), some val, some (.ref pl), some (.ref p), some (.int (seekV (gs.map GRow.b) (nkey op kv ms))), some (.ref hd), none] ∧ PX q H2 H3 ∧ H hd = none ∧ hd ≠ pl ∧ (H3 hd = some (.lst (ns.map V.int)) ∨ H3 hd = some (.tup (ns.map V.int)))) (fun Rk kk => ?_) ?_ | walk_at "w1")
    · refine use_takeP hp2 (by decide) (by decide) fun r H3 px3 r0 r1 => ?_
      have eh3 := px3.3 _ _ (tup_pool hp2 eh2) eh2
      have npq : pl ≠ q := ne_pool hp2 e22 fun c k b s z => by
        rcases ns with _ | ⟨n1, _ | ⟨n2, _ | ⟨n3, ns⟩⟩⟩
        · cases z
        · cases z
        · cases z
        · simp at z
      have e23 := px3.3 _ _ npq e22
      walk_at "w"
      by_cases hr1 : r = 1
      · rw [if_pos (decide_eq_true hr1)]
        walk_at "w"
        intro l hl
        have s3 : Same H3 (upd H3 l (.lst (ns.map V.int))) := same_of (Same.refl _) hl
        walk_at "w"
        exact kk _ _ ⟨l, rfl, px3.same s3, fresh_of1 (s1.trans s2) (fresh_px px3 hp2 hl), (ne_of_none e23 hl).symm, .inl upd_same⟩
      · rw [if_neg fun z => hr1 (of_decide_eq_true z)]
        walk_at "w"
        exact kk _ _ ⟨p1, rfl, px3, fh1, (fun z => by rw [z, e21] at g1; cases g1), .inr eh3⟩
    rintro _ H3 ⟨hd, rfl, px3, fhd, nhd, ehd⟩
    have live := sa.live hp
    have fresh : ∀ b ∈ q :: T.P_ao :: X.mut, hd ≠ b := fun b hb z => by
      obtain ⟨o, ho⟩ := live b hb
      rw [← z, fhd] at ho
      cases ho
    have npl : pl ∉ X.mut := sa.ints hg1 e2
    have hp3 := px3.2
    have sa3 := (sa1.same s2).px hp2 px3
    have c3 : Ch (q :: T.P_ao :: X.mut) H H3 := (Ch.of (s1.trans s2)).trans (Ch.px px3 (by simp))
    have hkv3 : ND.nk H3 kv val := ND.nk_keep (fun b ys e => px3.3 _ _ (tup_pool hp2 e) e) _ _ (ND.nk_keep (fun b ys e => s2 _ _ e) _ _ hkv1)
    have npq : pl ≠ q := ne_pool hp2 e22 fun c k b s z => by
      rcases ns with _ | ⟨n1, _ | ⟨n2, _ | ⟨n3, ns⟩⟩⟩
      · cases z
      · cases z
      · cases z
      · simp at z
    have e23 := px3.3 _ _ npq e22
    have e13 := px3.3 _ _ (tup_pool hp2 (s2 _ _ e11)) (s2 _ _ e11)
    have ep3 := px3.3 _ _ (tup_pool hp2 (s2 _ _ ep)) (s2 _ _ ep)
    have epa3 := px3.3 _ _ (tup_pool hp2 (s2 _ _ epa)) (s2 _ _ epa)
    clear dL dK emo emn e21 e22 e11 nkP epa ep hkv1 e1 e2 hkv
    walk_at "w"
    refine w_meth0 sa3.bk.obj rfl (by rfl) ?_
    walk_at "w"
    refine ⟨X.o, X.t, us, _, op, val, kv, ns, hd, rfl, sa3.bk, ehd, by omega, hkv3, hkd, fun H4 ms' s4 hk' => ?_⟩
    obtain rfl : ms = ms' := kept_uniq hk hk'
    walk_at "w"
    refine use_alike (.int _) (.int _) rfl (Nat.zero_le _) fun H5 s5 => ?_
    have s35 := s4.trans s5
    have sa5 := sa3.same s35
    have hp5 := hp3.same s35
    have c5 : Ch (q :: T.P_ao :: X.mut) H H5 := c3.trans (Ch.of s35)
    have hkv5 : ND.nk H5 kv val := ND.nk_keep (fun b ys e => s35 _ _ e) _ _ hkv3
    have e25 := s35 _ _ e23
    have e15 := s35 _ _ e13
    have ep5 := s35 _ _ ep3
    have epa5 := s35 _ _ epa3
    have ehd5 : H5 hd = some (.lst (ns.map V.int)) ∨ H5 hd = some (.tup (ns.map V.int)) := ehd.imp (s35 _ _) (s35 _ _)
    have emo5 := sa5.mo.mo_
    have emn5 := sa5.mo.mn_
    have ems5 := sa5.mo.ms_
    have el : ((ws.map V.ref).length : Int) = ((gs.map GRow.b).length : Int) := by rw [List.length_map, List.length_map, sa.mo.len]
    walk_at "w"
    refine w_bankLen sa5.bk (by rw [List.length_map]; omega) ?_
    have hg14 : ms.length ≤ 14 := by omega
    have hfm : Fits rows gs op kv ms so := hfit.kept hk
    repeat' (first | with_reducible refine seqIf (fun σ' H6 => ∃ (ws' : List Addr) (j : Nat), σ' = [some (.ref q), some (.ref X.wb), some (.ref X.o), some (.ref X.mo), some (.ref pm), some (vS op), some val, some (.ref pl), some (.ref p), some (.int ((j : Int) + 1)), some (.ref hd), none] ∧ Ch [X.mn, X.ms] H5 H6 ∧ MoAt H6 X.mo X.mn X.ms ws' (putG gs ⟨op, kv, ms, so⟩) ∧ seekV ((putG gs ⟨op, kv, ms, so⟩).map GRow.b) (nkey op kv ms) = (j : Int) + 1 ∧ j < (putG gs ⟨op, kv, ms, so⟩).length) (fun Rk kk => ?_) ?_ | walk_at "w1")
    · by_cases hin : nkey op kv ms ∈ gs.map GRow.k
      · obtain ⟨j, hj1, hj2, hj3⟩ := seekV_in hin
        have hpg : putG gs ⟨op, kv, ms, so⟩ = gs := if_pos hin
        rw [hj3, if_neg fun z => absurd (of_decide_eq_true z) (by omega)]
        walk_at "w"
        exact kk _ _ ⟨ws, j, rfl, Ch.refl _ _, by rw [hpg]; exact sa5.mo, by rw [hpg]; exact hj3, by rw [hpg]; exact hj2⟩
      · have hpg : putG gs ⟨op, kv, ms, so⟩ = gs ++ [⟨op, kv, ms, so⟩] := if_neg hin
        rw [seekV_none hin, if_pos (by decide)]
        walk_at "w"
        refine Z.w_bm ?_
        walk_at "w"
        refine Z.w_tyL ems5 ?_
        walk_at "w"
        refine ⟨X.wb, X.rb, pm, pl, X.ms, ra, tl, ot, rows, gs, op, val, kv, ns, so, rfl, sa5.wd, sa5.wo, e15, e25, hkv5, ems5, hfit, fun H6 s6 => ?_⟩
        have md6 := sa5.mo.same s6
        have ep6 := s6 _ _ ep5
        have epa6 := s6 _ _ epa5
        have hkv6 : ND.nk H6 kv val := ND.nk_keep (fun b ys e => s6 _ _ e) _ _ hkv5
        walk_at "w"
        refine Z.w_app md6.ms_ (by rw [List.length_map]; omega) ?_
        have nd := sa.nd
        simp only [LX.mut, List.nodup_cons, List.mem_cons, List.not_mem_nil, or_false, not_or, List.nodup_nil, not_false_eq_true, and_true] at nd
        have nms : X.mn ≠ X.ms := nd.2.2.2
        have cmn := sa.cm X.mn (by simp [LX.mut])
        have cms := sa.cm X.ms (by simp [LX.mut])
        simp only [LX.core, List.mem_cons, List.not_mem_nil, or_false, not_or] at cmn cms
        have f1 : upd H6 X.ms (.lst ((gs.map fun g => vS g.so) ++ [.str (S so)])) X.mo = some (.lst [.ref X.mn, .ref X.ms]) := by rw [upd_ne (Ne.symm cms.2.2.2.2.2.2)]; exact md6.mo_
        have f2 : upd H6 X.ms (.lst ((gs.map fun g => vS g.so) ++ [.str (S so)])) X.mn = some (.lst (ws.map V.ref)) := by rw [upd_ne nms]; exact md6.mn_
        have f3 : upd H6 X.ms (.lst ((gs.map fun g => vS g.so) ++ [.str (S so)])) X.ms = some (.lst ((gs.map fun g => vS g.so) ++ [.str (S so)])) := upd_same
        have f4 : ∀ b ys, H6 b = some (.tup ys) → upd H6 X.ms (.lst ((gs.map fun g => vS g.so) ++ [.str (S so)])) b = some (.tup ys) := fun b ys e => by
          rw [upd_ne (fun z => by rw [z, md6.ms_] at e; cases e)]
          exact e
        have f5 : Ch [X.mn, X.ms] H5 (upd H6 X.ms (.lst ((gs.map fun g => vS g.so) ++ [.str (S so)]))) := (Ch.of s6).put (by simp)
        generalize upd H6 X.ms (.lst ((gs.map fun g => vS g.so) ++ [.str (S so)])) = H7 at f1 f2 f3 f4 f5 ⊢
        walk_at "w"
        refine Z.w_bm ?_
        walk_at "w"
        refine Z.w_tyL f2 ?_
        walk_at "w"
        refine Z.w_app f2 (by rw [List.length_map, sa.mo.len]; omega) ?_
        have g1 : upd H7 X.mn (.lst (ws.map V.ref ++ [.ref p])) X.mo = some (.lst [.ref X.mn, .ref X.ms]) := by rw [upd_ne (Ne.symm cmn.2.2.2.2.2.2)]; exact f1
        have g2 : upd H7 X.mn (.lst (ws.map V.ref ++ [.ref p])) X.mn = some (.lst (ws.map V.ref ++ [.ref p])) := upd_same
        have g3 : upd H7 X.mn (.lst (ws.map V.ref ++ [.ref p])) X.ms = some (.lst ((gs.map fun g => vS g.so) ++ [.str (S so)])) := by rw [upd_ne nms.symm]; exact f3
        have g4 : ∀ b ys, H6 b = some (.tup ys) → upd H7 X.mn (.lst (ws.map V.ref ++ [.ref p])) b = some (.tup ys) := fun b ys e => by
          rw [upd_ne (fun z => by rw [z, md6.mn_] at e; cases e)]
          exact f4 b ys e
        have g5 : Ch [X.mn, X.ms] H5 (upd H7 X.mn (.lst (ws.map V.ref ++ [.ref p]))) := f5.put (by simp)
        generalize upd H7 X.mn (.lst (ws.map V.ref ++ [.ref p])) = H8 at g1 g2 g3 g4 g5 ⊢
        walk_at "w"
        have el2 : ((ws.map V.ref ++ [V.ref p]).length : Int) = (gs.length : Int) + 1 := by rw [List.length_append, List.length_map, sa.mo.len]; rfl
        rw [el2]
        refine kk _ _ ⟨ws ++ [p], gs.length, rfl, g5, ?_, by rw [hpg]; exact seekV_new hin, by rw [hpg, List.length_append]; exact Nat.lt_succ_self _⟩
        rw [hpg]
        refine ⟨g1, by rw [List.map_append]; exact g2, by rw [List.map_append]; exact g3, by rw [List.length_append, List.length_append, sa.mo.len]; rfl, fun i x a e1 e2 => ?_⟩
        by_cases hi : i < gs.length
        · rw [List.getElem?_append_left hi] at e1
          rw [List.getElem?_append_left (by rw [sa.mo.len]; exact hi)] at e2
          exact ND.nk_keep g4 _ _ (md6.nk i x a e1 e2)
        · have hl := (List.getElem?_eq_some_iff.mp e1).1
          rw [List.length_append, List.length_singleton] at hl
          obtain rfl : i = gs.length := by omega
          rw [List.getElem?_append_right (Nat.le_refl _), Nat.sub_self] at e1
          rw [← sa.mo.len, List.getElem?_append_right (Nat.le_refl _), Nat.sub_self] at e2
          obtain rfl := Option.some.inj e1
          obtain rfl := Option.some.inj e2
          exact ND.nk_keep g4 _ _ (nk_node ep6 hkv6 epa6)
    rintro _ H6 ⟨ws6, j, rfl, c56, md6, hjs, hjl⟩
    have cmA : ∀ b ∈ X.mut, b ≠ X.wb ∧ b ≠ X.rb ∧ b ≠ X.t.sg ∧ b ≠ X.tg.ds ∧ b ≠ X.tg.df ∧ b ≠ X.o ∧ b ≠ X.mo := fun b hb => by
      have q := sa.cm b hb
      simpa only [LX.core, List.mem_cons, List.not_mem_nil, or_false, not_or] using q
    have ndA := sa.nd
    simp only [LX.mut, List.nodup_cons, List.mem_cons, List.not_mem_nil, or_false, not_or, List.nodup_nil, not_false_eq_true, and_true] at ndA
    obtain ⟨⟨d12, d13, d14, d15⟩, ⟨d23, d24, d25⟩, ⟨d34, d35⟩, d45⟩ := ndA
    have sub1 : ∀ b ∈ [X.mn, X.ms], b ∈ X.mut := fun b hb => by
      simp only [List.mem_cons, List.not_mem_nil, or_false] at hb
      unfold LX.mut
      rcases hb with z | z <;> simp [z]
    have sub2 : ∀ b ∈ [X.t.ln, X.t.ls, X.t.dn], b ∈ X.mut := fun b hb => by
      simp only [List.mem_cons, List.not_mem_nil, or_false] at hb
      unfold LX.mut
      rcases hb with z | z | z <;> simp [z]
    have nt56 : NoTup [X.mn, X.ms] H5 := fun b hb ys e => sa5.nt b (sub1 b hb) ys e
    have ne56 : ∀ b ∈ [X.mn, X.ms], b ≠ X.t.ln ∧ b ≠ X.t.ls ∧ b ≠ X.t.dn := fun b hb => by
      simp only [List.mem_cons, List.not_mem_nil, or_false] at hb
      rcases hb with z | z
      · rw [z]; exact ⟨Ne.symm d14, Ne.symm d24, Ne.symm d34⟩
      · rw [z]; exact ⟨Ne.symm d15, Ne.symm d25, Ne.symm d35⟩
    have bk6 := sa5.bk.ch c56 nt56 fun b hb => ⟨(cmA b (sub1 b hb)).2.2.2.2.2.1, ne56 b hb⟩
    have sg6 := sa5.sg.ch c56 nt56 fun b hb => ⟨(cmA b (sub1 b hb)).2.2.1, (cmA b (sub1 b hb)).2.2.2.1, (cmA b (sub1 b hb)).2.2.2.2.1⟩
    have wd6 := sa5.wd.ch c56 nt56 fun b hb => ⟨(cmA b (sub1 b hb)).1, (cmA b (sub1 b hb)).2.1⟩
    have tb6 := TabG.keep sa5.tb fun o e => c56 _ _ (fun z => sa5.ptn.2 (sub1 _ z)) e
    have t56 : ∀ b ys, H5 b = some (.tup ys) → H6 b = some (.tup ys) := fun b ys e => c56.tup nt56 e
    have hkv6 : ND.nk H6 kv val := ND.nk_keep t56 _ _ hkv5
    have fr : ∀ b ∈ X.mut, hd ≠ b := fun b hb => fresh b (List.mem_cons_of_mem _ (List.mem_cons_of_mem _ hb))
    have ehd6 : H6 hd = some (.lst (ns.map V.int)) ∨ H6 hd = some (.tup (ns.map V.int)) := by
      have k : hd ∉ [X.mn, X.ms] := fun z => fr _ (sub1 _ z) rfl
      exact ehd5.imp (c56 _ _ k) (c56 _ _ k)
    have e26 := c56 _ _ (fun z => npl (sub1 _ z)) e25
    have c6 : Ch (q :: T.P_ao :: X.mut) H H6 := c5.trans (c56.sup fun b hb => List.mem_cons_of_mem _ (List.mem_cons_of_mem _ (sub1 b hb)))
    walk_at "w"
    refine w_meth0 bk6.obj rfl (by rfl) ?_
    walk_at "w"
    refine ⟨X.o, X.t, us, _, X.tg, _, _, op, val, kv, ns, hd, ns.map (soG gs), so, rfl, bk6, sg6, ehd6, by omega, by rw [List.length_map]; omega, hkv6, hkd, hfit.sorts, fit_mk sa.wo.nd sa.wo.lay hkv6 hfit.2, tb6, fun H7 us7 ms7 i7 c67 tb7 hk7 bk7 en7 => ?_⟩
    obtain rfl : ms = ms7 := kept_uniq hk hk7
    have nt67 : NoTup [X.t.ln, X.t.ls, X.t.dn, T.P_ao] H6 := fun b hb ys e => by
      simp only [List.mem_cons, List.not_mem_nil, or_false] at hb
      rcases hb with z | z | z | z
      · exact bk6.nt b (by rw [z]; simp) ys e
      · exact bk6.nt b (by rw [z]; simp) ys e
      · exact bk6.nt b (by rw [z]; simp) ys e
      · exact nt_tbl tb6 b (by rw [z]; simp) ys e
    have pt := sa.ptn
    have ptc : T.P_ao ≠ X.wb ∧ T.P_ao ≠ X.rb ∧ T.P_ao ≠ X.t.sg ∧ T.P_ao ≠ X.tg.ds ∧ T.P_ao ≠ X.tg.df ∧ T.P_ao ≠ X.o ∧ T.P_ao ≠ X.mo := by
      have q := pt.1
      simpa only [LX.core, List.mem_cons, List.not_mem_nil, or_false, not_or] using q
    have ne67 : ∀ b ∈ [X.t.ln, X.t.ls, X.t.dn, T.P_ao], (b ≠ X.wb ∧ b ≠ X.rb ∧ b ≠ X.t.sg ∧ b ≠ X.tg.ds ∧ b ≠ X.tg.df ∧ b ≠ X.o ∧ b ≠ X.mo) ∧ b ≠ X.mn ∧ b ≠ X.ms := fun b hb => by
      simp only [List.mem_cons, List.not_mem_nil, or_false] at hb
      rcases hb with z | z | z | z
      · rw [z]; exact ⟨cmA _ (sub2 _ (by simp)), d14, d15⟩
      · rw [z]; exact ⟨cmA _ (sub2 _ (by simp)), d24, d25⟩
      · rw [z]; exact ⟨cmA _ (sub2 _ (by simp)), d34, d35⟩
      · rw [z]; exact ⟨ptc, fun e => pt.2 (by rw [e]; simp [LX.mut]), fun e => pt.2 (by rw [e]; simp [LX.mut])⟩
    have md7 := md6.ch c67 nt67 fun b hb => ⟨(ne67 b hb).1.2.2.2.2.2.2, (ne67 b hb).2.1, (ne67 b hb).2.2⟩
    have sg7 := sg6.ch c67 nt67 fun b hb => ⟨(ne67 b hb).1.2.2.1, (ne67 b hb).1.2.2.2.1, (ne67 b hb).1.2.2.2.2.1⟩
    have wd7 := wd6.ch c67 nt67 fun b hb => ⟨(ne67 b hb).1.1, (ne67 b hb).1.2.1⟩
    have bk7' : BkAt P w T.C_Bank H7 X.o X.t us7 ((putG gs ⟨op, kv, ms, so⟩).map GRow.b) := by rw [putG_b]; exact bk7
    have sa7 : SAt P w T.C_Bank T.C_Signature T.P_ao H7 X ra tl ot rows us7 ws6 (putG gs ⟨op, kv, ms, so⟩) := ⟨wd7, sa.wo, sg7, bk7', md7, tb7, sa.gd.put hfm hg14, sa.cm, sa.nd⟩
    have eij : i7 = j := by
      have q : numOf ((putG gs ⟨op, kv, ms, so⟩).map GRow.b) (nkey op kv ms) = some (.int ((i7 : Int) + 1)) := by rw [putG_b]; exact en7
      have q2 := seekV_num ((putG gs ⟨op, kv, ms, so⟩).map GRow.b) (nkey op kv ms)
      rw [q, hjs] at q2
      have q3 : (i7 : Int) + 1 = (j : Int) + 1 := V.int.inj q2
      omega
    subst eij
    have t67 : ∀ b ys, H6 b = some (.tup ys) → H7 b = some (.tup ys) := fun b ys e => c67.tup nt67 e
    have hkv7 : ND.nk H7 kv val := ND.nk_keep t67 _ _ hkv6
    have hd67 : hd ∉ [X.t.ln, X.t.ls, X.t.dn, T.P_ao] := fun z => by
      simp only [List.mem_cons, List.not_mem_nil, or_false] at z
      rcases z with z | z | z | z
      · exact fr _ (sub2 _ (by simp)) z
      · exact fr _ (sub2 _ (by simp)) z
      · exact fr _ (sub2 _ (by simp)) z
      · exact fresh _ (by simp) z
    have pl67 : pl ∉ [X.t.ln, X.t.ls, X.t.dn, T.P_ao] := fun z => by
      simp only [List.mem_cons, List.not_mem_nil, or_false] at z
      rcases z with z | z | z | z
      · exact npl (z ▸ sub2 _ (by simp))
      · exact npl (z ▸ sub2 _ (by simp))
      · exact npl (z ▸ sub2 _ (by simp))
      · exact tbl_ne sa5.tb e25 (fun _ z => nomatch z) z
    have ehd7 : H7 hd = some (.lst (ns.map V.int)) ∨ H7 hd = some (.tup (ns.map V.int)) := ehd6.imp (c67 _ _ hd67) (c67 _ _ hd67)
    have e27 := c67 _ _ pl67 e26
    have ep7 := t67 _ _ (t56 _ _ ep5)
    have epa7 := t67 _ _ (t56 _ _ epa5)
    have c7 : Ch (q :: T.P_ao :: X.mut) H H7 := c6.trans (c67.sup fun b hb => by
      simp only [List.mem_cons, List.not_mem_nil, or_false] at hb
      rcases hb with z | z | z | z
      · exact List.mem_cons_of_mem _ (List.mem_cons_of_mem _ (z ▸ sub2 _ (by simp)))
      · exact List.mem_cons_of_mem _ (List.mem_cons_of_mem _ (z ▸ sub2 _ (by simp)))
      · exact List.mem_cons_of_mem _ (List.mem_cons_of_mem _ (z ▸ sub2 _ (by simp)))
      · rw [z]; simp)
    have hp7 : PoolAt H7 q := by
      have hq := sa5.nq hp5
      obtain ⟨o, ho, hip⟩ := id hp5
      refine ⟨o, c67 _ _ (fun z => ?_) (c56 _ _ (fun z => hq.2 (sub1 _ z)) ho), hip⟩
      simp only [List.mem_cons, List.not_mem_nil, or_false] at z
      rcases z with z | z | z | z
      · exact hq.2 (z ▸ sub2 _ (by simp))
      · exact hq.2 (z ▸ sub2 _ (by simp))
      · exact hq.2 (z ▸ sub2 _ (by simp))
      · obtain ⟨ps, hps, _⟩ := sa5.tb
        exact pool_ne hp5 hps (fun _ z => nomatch z) z
    clear c56 c67 nt56 nt67 ne56 ne67 sa5 sa3 sa1 bk6 sg6 wd6 md6 md7 sg7 wd7 bk7 bk7' e26 e25 ehd5 ehd6 ep5 epa5 ep3 epa3 e15 e13 e23 hkv6 hkv5 hkv3
    walk_at "w"
    refine use_alike (.int _) (.int _) rfl (Nat.zero_le _) fun H8 s8 => ?_
    have sa8 := sa7.same s8
    have ehd8 : H8 hd = some (.lst (ns.map V.int)) ∨ H8 hd = some (.tup (ns.map V.int)) := ehd7.imp (s8 _ _) (s8 _ _)
    have e28 := s8 _ _ e27
    walk_at "w"
    refine ⟨hd, ns.map V.int, rfl, ehd8.imp (fun e => .inl (.inl e)) (fun e => .inl (.inl e)), fun l hl => ?_⟩
    have sl : Same H8 (upd H8 l (.lst (ns.map V.int))) := same_of (Same.refl _) hl
    have el8 : upd H8 l (.lst (ns.map V.int)) l = some (.lst (ns.map V.int)) := upd_same
    generalize upd H8 l (.lst (ns.map V.int)) = H9 at sl el8 ⊢
    have e29 := sl _ _ e28
    have s79 := s8.trans sl
    have sa9 := sa8.same sl
    have ehd9 : H9 hd = some (.lst (ns.map V.int)) ∨ H9 hd = some (.tup (ns.map V.int)) := ehd8.imp (sl _ _) (sl _ _)
    walk_at "w"
    refine ne_intsL el8 e29 (by omega) ?_
    have hp9 := hp7.same s79
    have c9 : Ch (q :: T.P_ao :: X.mut) H H9 := c7.trans (Ch.of s79)
    have hkv9 : ND.nk H9 kv val := ND.nk_keep (fun b ys e => s79 _ _ e) _ _ hkv7
    have ep9 := s79 _ _ ep7
    have epa9 := s79 _ _ epa7
    repeat' (first | with_reducible refine seqIf (fun σ' Hx => σ' = [some (.ref q), some (.ref X.wb), some (.ref X.o), some (.ref X.mo), some (.ref pm), some (vS op), some val, some (.ref pl), some (.ref p), some (.int ((i7 : Int) + 1)), some (.ref hd), none] ∧ Ch (q :: T.P_ao :: X.mut) H Hx ∧ SAt P w T.C_Bank T.C_Signature T.P_ao Hx X ra tl ot rows us7 ws6 (putG gs ⟨op, kv, ms, so⟩) ∧ PoolAt Hx q ∧ ND.nk Hx kv val ∧ Hx p = some (.tup [vS op, val, .ref pa]) ∧ Hx pa = some (.tup (ms.map V.int))) (fun Rk kk => ?_) ?_ | walk_at "w1")
    · rcases ehd9 with e | e
      · refine w_isiL_l e ?_
        refine ⟨true, rfl, ?_⟩
        rw [if_pos rfl]
        walk_at "w"
        refine Z.w_bm ?_
        walk_at "w"
        refine Z.w_tyL e ?_
        walk_at "w"
        refine Z.w_app e (by rw [List.length_map]; omega) ?_
        walk_at "w"
        refine Z.w_setL (j := 0) upd_same (by rw [List.length_append]; unfold ixN; rw [if_pos (by decide), if_pos (by simp)]; rfl) ?_
        have cd : Ch [hd] H9 (upd (upd H9 hd (.lst (ns.map V.int ++ [V.int 1]))) hd (.lst ((ns.map V.int ++ [V.int 1]).set 0 (V.int 2)))) := ((Ch.refl _ _).put (by simp)).put (by simp)
        have ntd : NoTup [hd] H9 := fun b hb ys e2 => by rw [List.mem_singleton.mp hb, e] at e2; cases e2
        have frC : ∀ b ∈ X.core, hd ≠ b := fun b hb z => by
          obtain ⟨o, ho⟩ := sa.liveC b hb
          rw [← z, fhd] at ho
          cases ho
        have tbd := TabG.keep sa9.tb fun o eo => cd _ _ (fun z => fresh T.P_ao (by simp) (List.mem_singleton.mp z).symm) eo
        have sad := sa9.ch cd ntd tbd fun b hb => by
          rw [List.mem_singleton.mp hb]
          exact ⟨fun z => frC _ z rfl, fun z => fr _ z rfl⟩
        have td : ∀ b ys, H9 b = some (.tup ys) → _ := fun b ys eb => cd.tup ntd eb
        refine kk _ _ ⟨rfl, (c9.own fhd).own fhd, sad, ?_, ND.nk_keep td _ _ hkv9, td _ _ ep9, td _ _ epa9⟩
        obtain ⟨o, ho, hip⟩ := id hp9
        exact ⟨o, cd _ _ (fun z => fresh q (by simp) (List.mem_singleton.mp z).symm) ho, hip⟩
      · refine w_isiT_l (.inl (.inl e)) ?_
        refine ⟨false, rfl, ?_⟩
        rw [if_neg (by decide)]
        walk_at "w"
        exact kk _ _ ⟨rfl, c9, sa9, hp9, hkv9, ep9, epa9⟩
    clear sa7 sa8 sa9 c7 c9 hp7 hp9 hkv7 hkv9 ep7 ep9 epa7 epa9 ehd7 ehd8 ehd9 e27 e28 e29 el8 hp3 hp5 c3 c5 c6
    rintro _ Ha ⟨rfl, ca, saa, hpa, hkva, epA, epaA⟩
    walk_at "w"
    intro l hl
    have sl2 : Same Ha (upd Ha l (.lst (ms.map V.int))) := same_of (Same.refl _) hl
    have elA : upd Ha l (.lst (ms.map V.int)) l = some (.lst (ms.map V.int)) := upd_same
    generalize upd Ha l (.lst (ms.map V.int)) = Hb at sl2 elA ⊢
    repeat' (first | with_reducible refine seqIf (fun σ' Hx => ∃ (tn : Addr) (ts : List Int), σ' = [some (.ref q), some (.ref X.wb), some (.ref X.o), some (.ref X.mo), some (.ref pm), some (vS op), some val, some (.ref pl), some (.ref p), some (.int ((i7 : Int) + 1)), some (.ref hd), some (.ref tn)] ∧ Same Ha Hx ∧ Hx tn = some (.lst (ts.map V.int)) ∧ Kept op ts ms ∧ ts.length ≤ 14) (fun Rk kk => ?_) ?_ | walk_at "w1")
    · by_cases ho : op = [101, 113, 117, 97, 108]
      · rw [if_pos (decide_eq_true ho)]
        walk_at "w"
        refine w_revLs ?_
        walk_at "w"
        refine ⟨l, _, rfl, .inl (.inl elA), fun pr hpr => ?_⟩
        walk_at "w"
        exact kk _ _ ⟨pr, ms.reverse, rfl, same_of sl2 hpr, by rw [upd_same, List.map_reverse], kept_rev ho hk, by rw [List.length_reverse]; exact hg14⟩
      · rw [if_neg fun z => ho (of_decide_eq_true z)]
        walk_at "w"
        exact kk _ _ ⟨l, ms, rfl, sl2, elA, kept_self hk, hg14⟩
    rintro _ Hc ⟨tn, ts, rfl, sc, etn, hkt, htl⟩
    have sac := saa.same sc
    have hkvc : ND.nk Hc kv val := ND.nk_keep (fun b ys e => sc _ _ e) _ _ hkva
    have hgp : (putG gs ⟨op, kv, ms, so⟩).length ≤ 401 := Nat.le_trans (putG_len _ _) (by omega)
    walk_at "w"
    refine w_meth0 sac.bk.obj rfl (by rfl) ?_
    walk_at "w"
    refine ⟨X.o, X.t, us7, _, op, val, kv, ts, tn, rfl, sac.bk, .inl etn, by omega, hkvc, hkd, fun Hd msd sd hkd2 => ?_⟩
    obtain rfl : ms = msd := kept_uniq hkt hkd2
    rw [hjs]
    walk_at "w"
    refine use_alike (.int _) (.int _) rfl (Nat.zero_le _) fun He se => ?_
    have sae := sac.same (sd.trans se)
    have emoe := sae.mo.mo_
    have emne := sae.mo.mn_
    have ele : ((ws6.map V.ref).length : Int) = (((putG gs ⟨op, kv, ms, so⟩).map GRow.b).length : Int) := by rw [List.length_map, List.length_map, sae.mo.len]
    walk_at "w"
    refine w_bankLen sae.bk (by rw [List.length_map]; omega) ?_
    walk_at "w"
    refine ⟨X.o, X.t, us7, _, X.mo, X.mn, X.ms, ws6, rows, (i7 : Int) + 1, rfl, sae.bk, sae.mo, sae.gd, by omega, by omega, by omega, fun Hf sf => ?_⟩
    have saf := sae.same sf
    have sAF := ((sc.trans sd).trans se).trans sf
    exact h Hf us7 ws6 _ (ca.trans (Ch.of sAF)) saf (hpa.same sAF)
end
end L

namespace L
open PySem PySem.Spec PyProof.Rows L2 Z M DT
open _root_.SX (S S_len S_inj)
section
variable {P : Program} {w : World} {K : PySem.W.Frag} {mg : Str → Option Value} {base : Heap}
theorem bk_dp {CB : Addr} {H : Hp} {o : Addr} {t : BkO} {us : List Addr} {gs : List GRow} (bk : BkAt P w CB H o t us (gs.map GRow.b)) : DpAll K H (us.map V.ref) ((gs.map GRow.k).map kD) :=
  mo_dp (by have := bk.len; rwa [List.length_map] at this) fun i g a e1 e2 => (bk.nk i g.b a (by rw [List.getElem?_map, e1]; rfl) e2).1
theorem depAll_le {n : Nat} : ∀ {xs : List PyData}, (∀ x ∈ xs, x.depth ≤ n) → PyData.depthAll xs ≤ n
  | [], _ => by simp [PyData.depthAll]
  | x :: xs, h => by
    have h1 := h x List.mem_cons_self
    have h2 := depAll_le (xs := xs) fun y hy => h y (List.mem_cons_of_mem _ hy)
    unfold PyData.depthAll
    omega
theorem w_rng2 {tl : L2.TA} {σ : L2.St} {H : Hp} {R : It → Hp → Prop} (h : tl σ H fun vs H1 => ∃ i j : Int, vs = [.int i, .int j] ∧ (-(2 ^ 62) ≤ i ∧ i < 2 ^ 62 ∧ -(2 ^ 62) ≤ j ∧ j < 2 ^ 62) ∧ R (Itr i (j - i).toNat) H1) : iRng2 tl σ H R := h
def spEnd (P : Program) (w : World) (CB CS Pt : Addr) : Sp := fun vs H Q _ => ∃ (q : Addr) (X : LX) (ra : List Addr) (tl ot : List Nat) (rows : List WRow) (us ws : List Addr) (gs : List GRow), vs = [.ref q, .ref X.o, .ref X.mo] ∧ PoolAt H q ∧ SAt P w CB CS Pt H X ra tl ot rows us ws gs ∧ 1 ≤ gs.length ∧ gs.length ≤ 500 ∧ ∀ H', PX q H H' → Q (.bl true) H'
theorem ok_end (T : Txt K mg) : FnOk P w K mg base CX0 13 T.f_end T.fd_end ["_law_pool_here", "_law_bank", "_law_model"] (spEnd P w T.C_Bank T.C_Signature T.P_ao) := by
  have G_take := ok_take (P := P) (w := w) (base := base) T
  have G_Bank_len := ok_lenB (P := P) (w := w) (base := base) T
  have G_Bank_iter := ok_iterB (P := P) (w := w) (base := base) T
  have G_Bank_has := ok_has (P := P) (w := w) (base := base) T
  have G_alike := ok_alike (P := P) (w := w) (base := base) T 10
  have G_at := ok_at (P := P) (w := w) (base := base) T
  have G_refused := ok_refused (P := P) (w := w) (base := base) T
  have G_refused_by_base := ok_refusedB (P := P) (w := w) (base := base) T
  refine T.F_end.ok sc_end (fun vs H Q E h => ?_) (fun cdv A outer s H vs Q E hr h => ?_)
  · obtain ⟨q, X, ra, tl, ot, rows, us, ws, gs, rfl, _⟩ := h
    rfl
  · obtain ⟨q, X, ra, tl, ot, rows, us, ws, gs, rfl, hp, sa, hg1, hg5, h⟩ := h
    have emo := sa.mo.mo_
    have emn := sa.mo.mn_
    have hwl : (ws.map V.ref).length = gs.length := by rw [List.length_map]; exact sa.mo.len
    have hbl : us.length = gs.length := by have := sa.bk.len; rwa [List.length_map] at this
    have shpL := sa.gd.shp sa.wo
    have gdAll : gdL (.tuple ((gs.map GRow.k).map kD)) = true := by
      unfold gdL
      rw [gdLs_of fun x hx => ?_, decide_eq_true (by rw [List.length_map, List.length_map]; omega)]
      · rfl
      · obtain ⟨k, hk, rfl⟩ := List.mem_map.mp hx
        obtain ⟨g, hg, rfl⟩ := List.mem_map.mp hk
        exact sa.gd.row hg
    have depAll : (PyData.tuple ((gs.map GRow.k).map kD)).depth ≤ 9 := by
      rw [PyData.depth]
      have := depAll_le (n := 8) (xs := (gs.map GRow.k).map kD) fun x hx => by
        obtain ⟨k, hk, rfl⟩ := List.mem_map.mp hx
        exact Nat.le_trans (kD_dep k) (shpL k hk).2
      omega
    refine ⟨_, (pss_cons (ps_set (i := 3) sc_end.nd rfl (.inl rfl) (pe_callB call_len_seq (by rfl) T.m_len (by decide +kernel) (pa_cons (pe_ix ix_list (pv 2) pe_int (fun _ _ => rfl)) pa_nil)))
 (pss_cons (ps_for PassesOwn.never rfl (pi_range1 (by rfl) T.m_range (pa_cons pe_int pa_nil)) (pg_name (i := 4) sc_end.nd rfl (.inl rfl)) (pss_cons (ps_set (i := 5) sc_end.nd rfl (.inl rfl) (pe_callTy (OWN.call_listIt T.it_Bank G_Bank_iter T.b_Bank_iter G_Bank_len T.b_Bank_len (hr.mono (by first | decide | omega)) hr.hd) (by rfl) T.m_list (by decide +kernel) (pa_cons (pv 1) pa_nil)))
 (pss_cons (ps_if (pt_not (pt_val (pe_call G_alike (hr.mono (by first | decide | omega)) (by rfl) T.g_alike T.F_alike.kp T.b_alike .nil pass0 (pa_cons (pe_callTy call_tuple_of (by rfl) T.m_tuple (by decide +kernel) (pa_cons (pv 5) pa_nil)) (pa_cons (pe_callTy call_tuple_of (by rfl) T.m_tuple (by decide +kernel) (pa_cons (pe_ix ix_list (pv 2) pe_int (fun _ _ => rfl)) pa_nil)) pa_nil))))) (pss_one (ps_ret pe_bl)) pss_nil)
 (pss_one (ps_expr (pe_bm0 PySem.F.plainAttrs_list PySem.F.slot_list_clear PySem.F.type_list_clear mt_clear (pv 5)))))))
 (pss_cons (ps_if (pt_cmpR op_gt (pe_callB call_len_seq (by rfl) T.m_len (by decide +kernel) (pa_cons (pe_lc (own := [("_law_number_here", 6)]) (g := gName 6) (by rfl) sc_end.nd (pi_range2 (by rfl) T.m_range (pa_cons pe_int (pa_cons (pe_op op_add (pv 3) pe_int) pa_nil))) (blkOk_by (own := [("_law_number_here", 6)]) (N := N_end) (sc := defScope s_end) (by decide +kernel)) (fun _ _ _ _ _ => pg_name (i := 6) sc_end.nd rfl (Or.inl rfl)) (fun _ _ _ _ _ => pts_one (pt_not (pt_val (pe_call G_at (hr.mono (by first | decide | omega)) (by rfl) T.g_at T.F_at.kp T.b_at .nil pass0 (pa_cons (pv 1) (pa_cons (pv 2) (pa_cons (pv 6) pa_nil))))))) (fun _ _ _ _ _ => (pv 6))) pa_nil)) pe_int (nomark _)) (pss_one (ps_ret pe_bl)) pss_nil)
 (pss_cons (ps_for PassesOwn.never rfl (pi_list (pe_lst (pa_cons pe_int (pa_cons (pe_op op_sub pe_int pe_int) (pa_cons (pe_op op_add (pv 3) pe_int) (pa_cons (pe_op op_sub pe_int (pv 3)) (pa_cons (pe_op op_add (pe_op op_add (pv 3) pe_int) (pe_call G_take (hr.mono (by first | decide | omega)) (by rfl) T.g_take T.F_take.kp T.b_take .nil pass0 (pa_cons (pv 0) (pa_cons (pe_op op_pow pe_int pe_int) pa_nil)))) (pa_cons (pe_op op_pow pe_int pe_int) pa_nil)))))))) (pg_name (i := 6) sc_end.nd rfl (.inl rfl)) (pss_cons (ps_if (pt_cmpR op_notBl (pe_meth (pv 1) T.cl_Bank T.M_Bank_has G_Bank_has (hr.mono (by first | decide | omega)) T.b_Bank_has .nil pass0 (pa_cons (pv 6) pa_nil)) pe_bl (nomark _)) (pss_one (ps_ret pe_bl)) pss_nil)
 (pss_one (ps_if (pt_cmpR op_eq (pe_call G_take (hr.mono (by first | decide | omega)) (by rfl) T.g_take T.F_take.kp T.b_take .nil pass0 (pa_cons (pv 0) (pa_cons pe_int pa_nil))) pe_int (nomark _)) (pss_one (ps_if (PW.pt (pw_or (pt_not (pt_val (pe_call G_refused (hr.mono (by first | decide | omega)) (by rfl) T.g_refused T.F_refused.kp T.b_refused .nil pass0 (pa_cons (pv 1) (pa_cons (pv 6) (pa_cons pe_int pa_nil)))))) (pw_or1 (pt_not (pt_val (pe_call G_refused_by_base (hr.mono (by first | decide | omega)) (by rfl) T.g_refused_by_base T.F_refused_by_base.kp T.b_refused_by_base .nil pass0 (pa_cons (pv 1) (pa_cons (pv 6) (pa_cons pe_int pa_nil))))))))) (pss_one (ps_ret pe_bl)) pss_nil)) (pss_one (ps_if (PW.pt (pw_or (pt_not (pt_val (pe_call G_refused_by_base (hr.mono (by first | decide | omega)) (by rfl) T.g_refused_by_base T.F_refused_by_base.kp T.b_refused_by_base .nil pass0 (pa_cons (pv 1) (pa_cons (pv 6) (pa_cons pe_int pa_nil)))))) (pw_or1 (pt_not (pt_val (pe_call G_refused (hr.mono (by first | decide | omega)) (by rfl) T.g_refused T.F_refused.kp T.b_refused .nil pass0 (pa_cons (pv 1) (pa_cons (pv 6) (pa_cons pe_int pa_nil))))))))) (pss_one (ps_ret pe_bl)) pss_nil))))))
 (pss_one (ps_ret (pe_cmpR op_eq (pe_callB (OWN.call_lenOwn T.ln_Bank G_Bank_len T.b_Bank_len (hr.mono (by first | decide | omega))) (by rfl) T.m_len (by decide +kernel) (pa_cons (pv 1) pa_nil)) (pv 3) (nomark _)))))))), ?_⟩
    refine Z.w_start (σ' := [some (.ref q), some (.ref X.o), some (.ref X.mo), none, none, none, none]) rfl ?_
    walk_at "w"
    refine ⟨by omega, by omega, ?_⟩
    refine for_range (lo := 0) (n := _) (fun i σ' H' => ∃ v4 v5, σ' = [some (.ref q), some (.ref X.o), some (.ref X.mo), some (.int ((ws.map V.ref).length : Int)), v4, v5, none] ∧ Same H H') ⟨_, _, rfl, Same.refl _⟩ ?_ ?_
    · rintro i σ' H1 hi ⟨v4, v5, rfl, s1⟩
      have sa1 := sa.same s1
      walk_at "w"
      refine w_bankList sa1.bk (by rw [List.length_map]; omega) fun pn H2 fpn s2 epn => ?_
      have sa2 := sa1.same s2
      have emo2 := sa2.mo.mo_
      have emn2 := sa2.mo.mn_
      walk_at "w"
      refine ⟨pn, _, rfl, .inl ⟨.inl (.inl epn), fun t1 ht1 => ?_⟩⟩
      have s3 : Same H2 (upd H2 t1 (.tup (us.map V.ref))) := same_of (Same.refl _) ht1
      have et1 : upd H2 t1 (.tup (us.map V.ref)) t1 = some (.tup (us.map V.ref)) := upd_same
      generalize upd H2 t1 (.tup (us.map V.ref)) = H3 at s3 et1 ⊢
      have sa3 := sa2.same s3
      have emo3 := sa3.mo.mo_
      have emn3 := sa3.mo.mn_
      walk_at "w"
      refine ⟨X.mn, _, rfl, .inl ⟨.inl (.inl emn3), fun t2 ht2 => ?_⟩⟩
      have s4 : Same H3 (upd H3 t2 (.tup (ws.map V.ref))) := same_of (Same.refl _) ht2
      have et2 : upd H3 t2 (.tup (ws.map V.ref)) t2 = some (.tup (ws.map V.ref)) := upd_same
      generalize upd H3 t2 (.tup (ws.map V.ref)) = H4 at s4 et2 ⊢
      have sa4 := sa3.same s4
      walk_at "w"
      refine use_alike (.tup (.inl (.inl (s4 _ _ et1))) (bk_dp sa4.bk)) (.tup (.inl (.inl et2)) (mo_dp sa4.mo.len sa4.mo.nk)) gdAll depAll fun H5 s5 => ?_
      have ep5 := s5 _ _ (s4 _ _ (s3 _ _ epn))
      have fpn0 : H pn = none := fresh_of1 s1 fpn
      have s15 := ((s2.trans s3).trans s4).trans s5
      walk_at "w"
      refine Z.w_bm0 ?_
      walk_at "w"
      refine Z.w_tyL ep5 ?_
      refine ⟨pn, _, rfl, rfl, ep5, ?_⟩
      walk_at "w"
      first | exact ⟨_, _, rfl, same_mut (s1.trans s15) fpn0⟩ | exact same_mut (s1.trans s15) fpn0
    · rintro σ' H1 ⟨v4, v5, rfl, s1⟩
      have sa1 := sa.same s1
      walk_at "w"
      refine w_rng2 ?_
      walk_at "w"
      refine ⟨⟨by omega, by omega, by omega, by omega⟩, fun D hD => ?_⟩
      have fD : H D = none := fresh_of1 s1 hD
      refine lc_range (lo := 1) (n := _) (fun i H' => Same H1 H' ∧ H' D = some (.lst [])) ⟨same_of (Same.refl _) hD, upd_same⟩ ?_ ?_
      · rintro i H2 hi ⟨s2, eD⟩
        have hi2 : i < gs.length := by omega
        have sa2 := sa1.same s2
        refine Z.w_gname (σ' := [some (.ref q), some (.ref X.o), some (.ref X.mo), some (.int ((ws.map V.ref).length : Int)), v4, v5, some (.int ((1 : Int) + (i : Int)))]) rfl ⟨rfl, ?_⟩
        walk_at "w"
        refine ⟨X.o, X.t, us, gs, X.mo, X.mn, X.ms, ws, rows, (1 : Int) + (i : Int), rfl, sa2.bk, sa2.mo, sa2.gd, by omega, by omega, by omega, fun H3 s3 => ?_⟩
        walk_at "w"
        exact ⟨s2.trans s3, s3 _ _ eD⟩
      · rintro H2 ⟨s2, eD⟩
        have s02 := s1.trans s2
        have hp2 := hp.same s02
        have sa2 := sa.same s02
        walk_at "w"
        refine use_takeP hp2 (by decide) (by decide) fun r H3 px3 r0 r1 => ?_
        have r1' : r < 1000000000 := Int.lt_of_lt_of_le r1 (by decide)
        have px03 : PX q H H3 := ((PX.refl hp).same s02).trans px3
        walk_at "w"
        rename_i L hL
        have fL : H L = none := fresh_px px03 hp hL
        have e18 : (10 : Int) ^ (18 : Int).toNat = 1000000000000000000 := by decide
        have eL : ∀ v : HO, upd H3 L v L = some v := fun v => upd_same
        have px04 : ∀ v : HO, PX q H (upd H3 L v) := fun v => px03.new hL
        generalize hns : [(0 : Int), 0 - 1, ((ws.map V.ref).length : Int) + 1, 0 - ((ws.map V.ref).length : Int), ((ws.map V.ref).length : Int) + 2 + r, 10 ^ (18 : Int).toNat] = ns
        have hno : ∀ n ∈ ns, n.natAbs < 10 ^ 60 ∧ ¬ (1 ≤ n ∧ n ≤ (gs.length : Int)) := fun n hn => by
          rw [← hns] at hn
          simp only [List.mem_cons, List.not_mem_nil, or_false] at hn
          rw [e18] at hn
          rcases hn with z | z | z | z | z | z <;> (rw [z]; constructor <;> omega)
        refine for_list (a := L) (xs := ns.map V.int) (fun i σ' H' => ∃ v, σ' = [some (.ref q), some (.ref X.o), some (.ref X.mo), some (.int ((ws.map V.ref).length : Int)), v4, v5, v] ∧ PX q H H' ∧ H' L = some (.lst (ns.map V.int))) ⟨_, rfl, px04 _, by rw [← hns]; exact upd_same⟩ (fun i σ' H' _ ⟨_, _, _, e⟩ => .inl (.inl e)) ?_ ?_
        · rintro i x σ' H4 hx ⟨v, rfl, px, eLL⟩
          rw [List.getElem?_map] at hx
          obtain ⟨n, hn, rfl⟩ := Option.map_eq_some_iff.mp hx
          obtain ⟨n60, nno⟩ := hno n (List.mem_of_getElem? hn)
          have sa4 := sa.px hp px
          have hp4 := px.2
          have nbr : ¬ (1 ≤ n ∧ n ≤ ((gs.map GRow.b).length : Int)) := by rw [List.length_map]; exact nno
          walk_at "w"
          refine w_meth0 sa4.bk.obj rfl (by rfl) ?_
          walk_at "w"
          refine ⟨X.o, X.t, us, _, n, rfl, sa4.bk, ?_⟩
          rw [decide_eq_false nbr]
          walk_at "w"
          refine ⟨false, false, rfl, rfl, ?_⟩
          rw [show (!decide (false = false)) = false from rfl]
          walk_at "w"
          refine use_takeP hp4 (by decide) (by decide) fun r4 H5 px5 r40 r41 => ?_
          have pxa := px.trans px5
          have nLq : L ≠ q := fun z => by
            obtain ⟨o3, h3, _⟩ := hp
            rw [z, h3] at fL
            cases fL
          have eL5 := px5.3 _ _ nLq eLL
          have sa5 := sa.px hp pxa
          walk_at "w"
          by_cases hr4 : r4 = 1
          · rw [if_pos (decide_eq_true hr4)]
            walk_at "w"
            refine ⟨X.o, X.t, us, _, n, 0, rfl, sa5.bk, n60, nbr, fun H6 s6 => ?_⟩
            walk_at "w"
            refine ⟨X.o, X.t, us, _, n, 1, rfl, (sa5.same s6).bk, n60, nbr, fun H7 s7 => ?_⟩
            walk_at "w"
            first | exact ⟨_, rfl, (pxa.same s6).same s7, s7 _ _ (s6 _ _ eL5)⟩ | exact ⟨(pxa.same s6).same s7, s7 _ _ (s6 _ _ eL5)⟩
          · rw [if_neg fun z => hr4 (of_decide_eq_true z)]
            walk_at "w"
            refine ⟨X.o, X.t, us, _, n, 0, rfl, sa5.bk, n60, nbr, fun H6 s6 => ?_⟩
            walk_at "w"
            refine ⟨X.o, X.t, us, _, n, 1, rfl, (sa5.same s6).bk, n60, nbr, fun H7 s7 => ?_⟩
            walk_at "w"
            first | exact ⟨_, rfl, (pxa.same s6).same s7, s7 _ _ (s6 _ _ eL5)⟩ | exact ⟨(pxa.same s6).same s7, s7 _ _ (s6 _ _ eL5)⟩
        · rintro σ' H4 ⟨v, rfl, px, eLL⟩
          have sa4 := sa.px hp px
          walk_at "w"
          refine w_bankLen sa4.bk (by rw [List.length_map]; omega) ?_
          walk_at "w"
          have el : ((gs.map GRow.b).length : Int) = ((ws.map V.ref).length : Int) := by rw [List.length_map, hwl]
          rw [el]
          first | (rw [decide_eq_true rfl]; exact h _ px) | exact h _ px
end
end L

namespace L
open PySem PySem.Spec PyProof.Rows L2 Z M DT
open _root_.SX (S S_len S_inj)
/-! all but the code's table stays of the first heap -/
theorem sq_keep {K : PySem.W.Frag} {H H' : Hp} {a : Addr} {xs : List V} (e : ∀ o, H a = some o → H' a = some o) (h : SqL K H a xs) : SqL K H' a xs := by
  rcases h with (h | ⟨o, h⟩) | h
  · exact .inl (.inl (e _ h))
  · exact .inl (.inr ⟨o, e _ h⟩)
  · exact .inr h
theorem base_ch {Pt : Addr} {S' : List Addr} {H H1 H2 : Hp} (a : Ch [Pt] H H1) (c : Ch S' H1 H2) (f : ∀ b ∈ S', b = Pt ∨ H b = none) : Ch [Pt] H H2 := fun b x n e => c b x (fun z => (f b z).elim (fun q => n (by rw [q]; exact List.mem_singleton.mpr rfl)) fun q => by rw [q] at e; cases e) (a b x n e)
theorem base_same {Pt : Addr} {H H1 H2 : Hp} (a : Ch [Pt] H H1) (c : Same H1 H2) : Ch [Pt] H H2 := a.trans (Ch.of c)
theorem base_px {Pt q : Addr} {H H1 H2 : Hp} (a : Ch [Pt] H H1) (c : PX q H1 H2) (f : H q = none) : Ch [Pt] H H2 := base_ch a (Ch.px c (List.mem_singleton.mpr rfl)) fun b hb => .inr (by rw [List.mem_singleton.mp hb]; exact f)
theorem fresh_b {Pt p : Addr} {H H1 : Hp} (a : Ch [Pt] H H1) (tb : GxR.TabG H1 Pt) (h : H1 p = none) : H p = none := by
  cases e : H p with
  | none => rfl
  | some o =>
    by_cases z : p = Pt
    · obtain ⟨ps, hp, _⟩ := tb
      rw [z, hp] at h
      cases h
    · rw [a p o (fun q => z (List.mem_singleton.mp q)) e] at h
      cases h
theorem tb_same {Pt : Addr} {H H1 : Hp} (a : GxR.TabG H Pt) (c : Same H H1) : GxR.TabG H1 Pt := TabG.keep a fun o e => c _ _ e
theorem tb_px {Pt q : Addr} {H H1 : Hp} (a : GxR.TabG H Pt) (hp : PoolAt H q) (c : PX q H H1) : GxR.TabG H1 Pt := TabG.keep a fun o e => c.3 _ _ (fun z => by
  obtain ⟨ps, hq, _⟩ := a
  exact pool_ne hp hq (fun _ z => nomatch z) z.symm) e
/-! addresses that are apart -/
def LV (H : Hp) (l : List Addr) : Prop := ∀ b ∈ l, ∃ o, H b = some o
theorem nd_new {H : Hp} {l : List Addr} {p : Addr} (hl : LV H l) (hn : l.Nodup) (h : H p = none) : (p :: l).Nodup := by
  refine List.nodup_cons.mpr ⟨fun m => ?_, hn⟩
  obtain ⟨o, ho⟩ := hl p m
  rw [ho] at h
  cases h
theorem LV.cons {H : Hp} {l : List Addr} {p : Addr} {o : HO} (h : H p = some o) (hl : LV H l) : LV H (p :: l) := fun b hb => by
  rcases List.mem_cons.mp hb with z | hb
  · exact ⟨o, by rw [z]; exact h⟩
  · exact hl b hb
theorem LV.same {H H' : Hp} {l : List Addr} (h : LV H l) (s : Same H H') : LV H' l := fun b hb => by
  obtain ⟨o, ho⟩ := h b hb
  exact ⟨o, s _ _ ho⟩
theorem nodup_dj {N : List Addr} (h : N.Nodup) (is js : List Nat) (hd : ∀ i ∈ is, i ∉ js) : ∀ b ∈ is.filterMap (N[·]?), b ∉ js.filterMap (N[·]?) := fun b hb hc => by
  obtain ⟨i, hi, ei⟩ := List.mem_filterMap.mp hb
  obtain ⟨j, hj, ej⟩ := List.mem_filterMap.mp hc
  have nij : i ≠ j := fun z => hd i hi (z ▸ hj)
  obtain ⟨li, gi⟩ := List.getElem?_eq_some_iff.mp ei
  obtain ⟨lj, gj⟩ := List.getElem?_eq_some_iff.mp ej
  have q := List.pairwise_iff_getElem.mp h
  rcases Nat.lt_or_gt_of_ne nij with z | z
  · exact q i j li lj z (gi.trans gj.symm)
  · exact q j i lj li z (gj.trans gi.symm)
theorem nodup_sub {N : List Addr} (h : N.Nodup) : ∀ (is : List Nat), is.Nodup → (is.filterMap (N[·]?)).Nodup
  | [], _ => .nil
  | i :: is, hi => by
    obtain ⟨h1, h2⟩ := List.nodup_cons.mp hi
    have ih := nodup_sub h is h2
    cases e : N[i]? with
    | none => rw [List.filterMap_cons_none e]; exact ih
    | some b =>
      rw [List.filterMap_cons_some e]
      refine List.nodup_cons.mpr ⟨fun hm => ?_, ih⟩
      exact nodup_dj h [i] is (fun j hj => by rw [List.mem_singleton.mp hj]; exact h1) b (List.mem_filterMap.mpr ⟨i, List.mem_singleton.mpr rfl, e⟩) hm
/-! two banks with their models -/
structure Law2 (P : Program) (w : World) (CB CS Pt : Addr) (H : Hp) (X Y : LX) (Lb Lm : Addr) (ra : List Addr) (tl ot : List Nat) (rows : List WRow) (ux wx uy wy : List Addr) (gx gy : List GRow) : Prop where
  x : SAt P w CB CS Pt H X ra tl ot rows ux wx gx
  y : SAt P w CB CS Pt H Y ra tl ot rows uy wy gy
  xy : ∀ b ∈ X.mut, b ∉ Y.core ∧ b ∉ Y.mut
  yx : ∀ b ∈ Y.mut, b ∉ X.core ∧ b ∉ X.mut
  lb : ∃ xs : List Addr, H Lb = some (.lst (xs.map V.ref))
  lm : ∃ xs : List Addr, H Lm = some (.lst (xs.map V.ref))
  lbx : Lb ∉ X.mut ∧ Lb ∉ Y.mut
  lmx : Lm ∉ X.mut ∧ Lm ∉ Y.mut
theorem Law2.swap {P : Program} {w : World} {CB CS Pt : Addr} {H : Hp} {X Y : LX} {Lb Lm : Addr} {ra : List Addr} {tl ot : List Nat} {rows : List WRow} {ux wx uy wy : List Addr} {gx gy : List GRow} (h : Law2 P w CB CS Pt H X Y Lb Lm ra tl ot rows ux wx uy wy gx gy) : Law2 P w CB CS Pt H Y X Lb Lm ra tl ot rows uy wy ux wx gy gx :=
  ⟨h.y, h.x, h.yx, h.xy, h.lb, h.lm, ⟨h.lbx.2, h.lbx.1⟩, h.lmx.2, h.lmx.1⟩
section
variable {P : Program} {w : World} {CB CS Pt : Addr} {H H' : Hp} {X Y : LX} {Lb Lm q : Addr} {ra : List Addr} {tl ot : List Nat} {rows : List WRow} {ux wx uy wy : List Addr} {gx gy : List GRow}
theorem Law2.nq (h : Law2 P w CB CS Pt H X Y Lb Lm ra tl ot rows ux wx uy wy gx gy) (hp : PoolAt H q) : Lb ≠ q ∧ Lm ≠ q := by
  obtain ⟨xs, e⟩ := h.lb
  obtain ⟨ys, e2⟩ := h.lm
  exact ⟨refs_pool hp e, refs_pool hp e2⟩
theorem Law2.step {ux' wx' : List Addr} {gx' : List GRow} (h : Law2 P w CB CS Pt H X Y Lb Lm ra tl ot rows ux wx uy wy gx gy) (hp : PoolAt H q) (c : Ch (q :: Pt :: X.mut) H H') (s : SAt P w CB CS Pt H' X ra tl ot rows ux' wx' gx') : Law2 P w CB CS Pt H' X Y Lb Lm ra tl ot rows ux' wx' uy wy gx' gy ∧ (∀ v, H Lb = some v → H' Lb = some v) ∧ (∀ v, H Lm = some v → H' Lm = some v) := by
  obtain ⟨n1, n2⟩ := h.nq hp
  obtain ⟨xs, e1⟩ := h.lb
  obtain ⟨ys, e2⟩ := h.lm
  have k1 : Lb ∉ q :: Pt :: X.mut := fun z => by
    rcases List.mem_cons.mp z with z | z
    · exact n1 z
    rcases List.mem_cons.mp z with z | z
    · exact tbl_ne h.x.tb e1 (fun _ z => nomatch z) z
    · exact h.lbx.1 z
  have k2 : Lm ∉ q :: Pt :: X.mut := fun z => by
    rcases List.mem_cons.mp z with z | z
    · exact n2 z
    rcases List.mem_cons.mp z with z | z
    · exact tbl_ne h.x.tb e2 (fun _ z => nomatch z) z
    · exact h.lmx.1 z
  have nt : NoTup (q :: Pt :: X.mut) H := fun b hb ys e => by
    rcases List.mem_cons.mp hb with z | hb
    · exact tup_pool hp e z
    rcases List.mem_cons.mp hb with z | hb
    · exact nt_tbl h.x.tb b (List.mem_singleton.mpr z) ys e
    · exact h.x.nt b hb ys e
  refine ⟨⟨s, h.y.ch c nt s.tb fun b hb => ?_, h.xy, h.yx, ⟨xs, c _ _ k1 e1⟩, ⟨ys, c _ _ k2 e2⟩, h.lbx, h.lmx⟩, fun v e => c _ _ k1 e, fun v e => c _ _ k2 e⟩
  rcases List.mem_cons.mp hb with z | hb
  · rw [z]; exact h.y.nq hp
  rcases List.mem_cons.mp hb with z | hb
  · rw [z]; exact h.y.ptn
  · exact h.xy b hb
theorem Law2.same (h : Law2 P w CB CS Pt H X Y Lb Lm ra tl ot rows ux wx uy wy gx gy) (s : Same H H') : Law2 P w CB CS Pt H' X Y Lb Lm ra tl ot rows ux wx uy wy gx gy := by
  obtain ⟨xs, e1⟩ := h.lb
  obtain ⟨ys, e2⟩ := h.lm
  exact ⟨h.x.same s, h.y.same s, h.xy, h.yx, ⟨xs, s _ _ e1⟩, ⟨ys, s _ _ e2⟩, h.lbx, h.lmx⟩
theorem Law2.px (h : Law2 P w CB CS Pt H X Y Lb Lm ra tl ot rows ux wx uy wy gx gy) (hp : PoolAt H q) (s : PX q H H') : Law2 P w CB CS Pt H' X Y Lb Lm ra tl ot rows ux wx uy wy gx gy := by
  obtain ⟨n1, n2⟩ := h.nq hp
  obtain ⟨xs, e1⟩ := h.lb
  obtain ⟨ys, e2⟩ := h.lm
  exact ⟨h.x.px hp s, h.y.px hp s, h.xy, h.yx, ⟨xs, s.3 _ _ n1 e1⟩, ⟨ys, s.3 _ _ n2 e2⟩, h.lbx, h.lmx⟩
end
/-! a dict of the signature changes -/
theorem same_ch {S' : List Addr} {H H1 H2 : Hp} (a : Same H H1) (c : Ch S' H1 H2) (f : ∀ b ∈ S', H b = none) : Same H H2 := fun b x e => c b x (fun z => by rw [f b z] at e; cases e) (a b x e)
section
variable {P : Program} {w : World} {H H' : Hp} {b : Addr} {ks : List (Key × V)}
theorem nt_d (hb : H b = some (.dK ks)) : NoTup [b] H := fun c hc ys e => by rw [List.mem_singleton.mp hc, hb] at e; cases e
theorem ne_d {a : Addr} {o : HO} (hb : H b = some (.dK ks)) (e : H a = some o) (n : ∀ l, o ≠ .dK l) : b ≠ a := fun z => by
  rw [z, e] at hb
  exact n _ (Option.some.inj hb)
theorem W3At.d {wb rb : Addr} {ra : List Addr} {tl ot : List Nat} {rows : List WRow} (h : W3At H wb rb ra tl ot rows) (hb : H b = some (.dK ks)) (c : Ch [b] H H') : W3At H' wb rb ra tl ot rows :=
  h.ch c (nt_d hb) fun x hx => by
    rw [List.mem_singleton.mp hx]
    exact ⟨ne_d hb h.w fun _ z => (by cases z), ne_d hb h.r fun _ z => (by cases z)⟩
theorem pool_d {q : Addr} (h : PoolAt H q) (hb : H b = some (.dK ks)) (c : Ch [b] H H') : PoolAt H' q := by
  have n := pool_ne h hb fun _ z => nomatch z
  obtain ⟨o, ho, hi⟩ := h
  exact ⟨o, c _ _ (fun z => n (List.mem_singleton.mp z)) ho, hi⟩
theorem tb_d {Pt : Addr} (h : GxR.TabG H Pt) (hb : H b = some (.dK ks)) (c : Ch [b] H H') : GxR.TabG H' Pt := TabG.keep h fun o e => c _ _ (fun z => tbl_ne h hb (fun _ z => nomatch z) (List.mem_singleton.mp z).symm) e
theorem lst_d {a : Addr} {xs : List V} (e : H a = some (.lst xs)) (hb : H b = some (.dK ks)) (c : Ch [b] H H') : H' a = some (.lst xs) := c _ _ (fun z => ne_d hb e (fun _ z => nomatch z) (List.mem_singleton.mp z).symm) e
theorem MoAt.d {mo mn ms : Addr} {ws : List Addr} {gs : List GRow} (h : MoAt H mo mn ms ws gs) (hb : H b = some (.dK ks)) (c : Ch [b] H H') : MoAt H' mo mn ms ws gs :=
  h.ch c (nt_d hb) fun x hx => by
    rw [List.mem_singleton.mp hx]
    exact ⟨ne_d hb h.mo_ fun _ z => (by cases z), ne_d hb h.mn_ fun _ z => (by cases z), ne_d hb h.ms_ fun _ z => (by cases z)⟩
theorem BkAt.d {CB o : Addr} {t : BkO} {us : List Addr} {rs : List BRow} (h : BkAt P w CB H o t us rs) (hn : b ≠ t.dn) (hb : H b = some (.dK ks)) (c : Ch [b] H H') : BkAt P w CB H' o t us rs :=
  h.ch c (nt_d hb) fun x hx => by
    rw [List.mem_singleton.mp hx]
    exact ⟨ne_d hb h.obj fun _ z => (by cases z), ne_d hb h.ln fun _ z => (by cases z), ne_d hb h.ls fun _ z => (by cases z), hn⟩
end
theorem w_fldE {K : PySem.W.Frag} {te : TE} {f : Str} {σ : L2.St} {H : Hp} {Q : VK} (h : te σ H fun x H1 => ∃ (o C dx : Addr) (fs : List (Str × V)) (v : V), x = .ref o ∧ H1 o = some (.ins C dx fs) ∧ Cls K C ∧ NoAttr K C f ∧ fs.lookup f = some v ∧ Q v H1) : tFld K te f σ H Q := h
/-! a pool changes -/
section
variable {P : Program} {w : World} {H H' : Hp} {q : Addr}
theorem SigAt.qx {C o : Addr} {t : SgO} {ss : List Str} {fs : List FnRow} (h : SigAt C H o t ss fs) (hp : PoolAt H q) (c : PX q H H') : SigAt C H' o t ss fs :=
  h.ch (Ch.px c (List.mem_singleton.mpr rfl)) (nt_pool hp) fun x hx => by
    obtain ⟨ks, hs, _⟩ := h.so
    obtain ⟨kf, hf, _⟩ := h.fu
    rw [List.mem_singleton.mp hx]
    exact ⟨pool_ne hp h.obj (fun _ z => nomatch z), pool_ne hp hs (fun _ z => nomatch z), pool_ne hp hf (fun _ z => nomatch z)⟩
theorem BkAt.qx {CB o : Addr} {t : BkO} {us : List Addr} {rs : List BRow} (h : BkAt P w CB H o t us rs) (hp : PoolAt H q) (c : PX q H H') : BkAt P w CB H' o t us rs :=
  h.ch (Ch.px c (List.mem_singleton.mpr rfl)) (nt_pool hp) fun x hx => by
    obtain ⟨kvs, n1, _⟩ := h.nums
    rw [List.mem_singleton.mp hx]
    exact ⟨pool_ne hp h.obj (fun _ z => nomatch z), (refs_pool hp h.ln).symm, (strs_pool hp h.ls).symm, pool_nd hp n1⟩
theorem MoAt.qx {mo mn ms : Addr} {ws : List Addr} {gs : List GRow} (h : MoAt H mo mn ms ws gs) (hp : PoolAt H q) (c : PX q H H') : MoAt H' mo mn ms ws gs :=
  h.ch (Ch.px c (List.mem_singleton.mpr rfl)) (nt_pool hp) fun x hx => by
    rw [List.mem_singleton.mp hx]
    exact ⟨fun z => ne_pool hp h.mo_ (fun c k b s z => by cases z) z.symm, (refs_pool hp h.mn_).symm, (strs_pool hp h.ms_).symm⟩
end
theorem dps {K : PySem.W.Frag} {H : Hp} {α : Type} (f : α → Str) : ∀ zs : List α, DpAll K H (zs.map fun z => V.str (f z)) (zs.map fun z => PyData.str (f z))
  | [] => .nil
  | z :: zs => .cons (.str _) (dps f zs)
theorem eqvs {α : Type} (f : α → Str) : ∀ zs : List α, PyData.eqvAll (zs.map fun z => PyData.str (f z)) (zs.map fun z => PyData.str (f z)) = true
  | [] => by simp [PyData.eqvAll]
  | z :: zs => by
    rw [List.map_cons, PyData.eqvAll, eqvs f zs]
    simp [PyData.eqv]
theorem lays {α : Type} (f : α → Str) : ∀ zs : List α, (∀ z ∈ zs, (PyData.str (f z)).canLay0 = true) → PyData.canLayAll0 (zs.map fun z => PyData.str (f z)) = true ∧ PyData.depthAll (zs.map fun z => PyData.str (f z)) ≤ 1
  | [], _ => ⟨rfl, by simp [PyData.depthAll]⟩
  | z :: zs, h => by
    obtain ⟨h1, h2⟩ := lays f zs fun y hy => h y (List.mem_cons_of_mem _ hy)
    rw [List.map_cons]
    refine ⟨by rw [PyData.canLayAll0, h1, h z List.mem_cons_self]; rfl, ?_⟩
    simp only [PyData.depthAll, PyData.depth]
    omega
theorem ne_strsL {K : PySem.W.Frag} {H : Hp} {a b : Addr} {α : Type} {f : α → Str} {zs : List α} {Q : VK} (ha : H a = some (.lst (zs.map fun z => V.str (f z)))) (hb : H b = some (.lst (zs.map fun z => V.str (f z)))) (hl : ∀ z ∈ zs, (PyData.str (f z)).canLay0 = true) (q : Q (.bl false) H) : rNeD K (.ref a) (.ref b) H Q := by
  obtain ⟨l1, l2⟩ := lays f zs hl
  have sh : SeqAt.shaped (.list (zs.map fun z => PyData.str (f z))) = true := by
    unfold SeqAt.shaped
    rw [show (PyData.list (zs.map fun z => PyData.str (f z))).canLay0 = PyData.canLayAll0 (zs.map fun z => PyData.str (f z)) by rw [PyData.canLay0], l1, decide_eq_true (show (PyData.list (zs.map fun z => PyData.str (f z))).depth ≤ 64 by rw [PyData.depth]; omega)]
    rfl
  refine ⟨.list _, .list _, .lst (.inl (.inl ha)) (dps f zs), .lst (.inl (.inl hb)) (dps f zs), sh, sh, ?_⟩
  rw [show PyData.eqv (.list (zs.map fun z => PyData.str (f z))) (.list (zs.map fun z => PyData.str (f z))) = true by rw [PyData.eqv]; exact eqvs f zs]
  exact q
/-! the code's table changes -/
section
variable {P : Program} {w : World} {H H' : Hp} {Pt : Addr}
theorem W3At.t {wb rb : Addr} {ra : List Addr} {tl ot : List Nat} {rows : List WRow} (h : W3At H wb rb ra tl ot rows) (tb : GxR.TabG H Pt) (c : Ch [Pt] H H') : W3At H' wb rb ra tl ot rows :=
  h.ch c (nt_tbl tb) fun x hx => by
    rw [List.mem_singleton.mp hx]
    exact ⟨(tbl_ne tb h.w fun _ z => (by cases z)).symm, (tbl_ne tb h.r fun _ z => (by cases z)).symm⟩
theorem lst_t {a : Addr} {xs : List V} (e : H a = some (.lst xs)) (tb : GxR.TabG H Pt) (c : Ch [Pt] H H') : H' a = some (.lst xs) := c _ _ (fun z => tbl_ne tb e (fun _ z => nomatch z) (List.mem_singleton.mp z)) e
theorem pool_t {q : Addr} (h : PoolAt H q) (tb : GxR.TabG H Pt) (c : Ch [Pt] H H') : PoolAt H' q := by
  obtain ⟨o, ho, k⟩ := id h
  obtain ⟨x1, x2, x3, x4, rfl⟩ := id k
  exact ⟨_, lst_t ho tb c, k⟩
theorem SigAt.t {C o : Addr} {t : SgO} {ss : List Str} {fs : List FnRow} (h : SigAt C H o t ss fs) (tb : GxR.TabG H Pt) (c : Ch [Pt] H H') : SigAt C H' o t ss fs :=
  h.ch c (nt_tbl tb) fun x hx => by
    have q := h.tbl tb
    rw [List.mem_singleton.mp hx]
    exact ⟨q.1.symm, q.2.1.symm, q.2.2.symm⟩
theorem BkAt.t {CB o : Addr} {t : BkO} {us : List Addr} {rs : List BRow} (h : BkAt P w CB H o t us rs) (tb : GxR.TabG H Pt) (c : Ch [Pt] H H') : BkAt P w CB H' o t us rs :=
  h.ch c (nt_tbl tb) fun x hx => by
    have q := h.tbl tb
    rw [List.mem_singleton.mp hx]
    exact ⟨q.1.symm, q.2.1.symm, q.2.2.1.symm, q.2.2.2.symm⟩
theorem lv_core {CS wb rb sg : Addr} {ra : List Addr} {tl ot : List Nat} {rows : List WRow} {tg : SgO} {ss : List Str} {fs : List FnRow} (h : W3At H wb rb ra tl ot rows) (g : SigAt CS H sg tg ss fs) : LV H [wb, rb, sg, tg.ds, tg.df] ∧ [wb, rb, sg, tg.ds, tg.df].Nodup := by
  obtain ⟨ks, hs, _⟩ := g.so
  obtain ⟨kf, hf, _⟩ := g.fu
  refine ⟨LV.cons h.w (LV.cons h.r (LV.cons g.obj (LV.cons hs (LV.cons hf fun b hb => by cases hb)))), ?_⟩
  have a1 : ∀ {a b : Addr} {x y : HO}, H a = some x → H b = some y → x ≠ y → a ≠ b := fun e1 e2 n z => by
    rw [z, e2] at e1
    exact n (Option.some.inj e1).symm
  simp only [List.nodup_cons, List.mem_cons, List.not_mem_nil, or_false, not_or, List.nodup_nil, not_false_eq_true, and_true]
  refine ⟨⟨h.ne, a1 h.w g.obj (fun z => nomatch z), a1 h.w hs (fun z => nomatch z), a1 h.w hf (fun z => nomatch z)⟩, ⟨a1 h.r g.obj (fun z => nomatch z), a1 h.r hs (fun z => nomatch z), a1 h.r hf (fun z => nomatch z)⟩, ⟨a1 g.obj hs (fun z => nomatch z), a1 g.obj hf (fun z => nomatch z)⟩, g.ne⟩
theorem nd_bank {CB o : Addr} {t : BkO} {us : List Addr} {rs : List BRow} {L : List Addr} (hl : LV H L) (hn : L.Nodup) (bk : BkAt P w CB H' o t us rs) (h1 : H t.ln = none) (h2 : H t.ls = none) (h3 : H t.dn = none) : (t.dn :: t.ls :: t.ln :: L).Nodup := by
  obtain ⟨kvs, n1, _⟩ := bk.nums
  have k : ∀ {p : Addr}, H p = none → p ∉ L := fun h m => by
    obtain ⟨o, ho⟩ := hl _ m
    rw [ho] at h
    cases h
  refine List.nodup_cons.mpr ⟨fun m => ?_, List.nodup_cons.mpr ⟨fun m => ?_, List.nodup_cons.mpr ⟨k h1, hn⟩⟩⟩
  · rcases List.mem_cons.mp m with z | m
    · exact nd_ne n1 bk.ls z.symm
    rcases List.mem_cons.mp m with z | m
    · exact nd_ne n1 bk.ln z.symm
    · exact k h3 m
  · rcases List.mem_cons.mp m with z | m
    · exact bk.ne z.symm
    · exact k h2 m
theorem lv_bank {CB o : Addr} {t : BkO} {us : List Addr} {rs : List BRow} {L : List Addr} (hl : LV H L) (bk : BkAt P w CB H o t us rs) : LV H (t.dn :: t.ls :: t.ln :: o :: L) := by
  obtain ⟨kvs, n1, _⟩ := bk.nums
  have e : ∃ u, H t.dn = some u := by
    rcases n1 with ⟨ts, _, e2, _⟩ | ⟨_, e2⟩
    · exact ⟨_, e2⟩
    · exact ⟨_, e2⟩
  obtain ⟨u, hu⟩ := e
  exact LV.cons hu (LV.cons bk.ls (LV.cons bk.ln (LV.cons bk.obj hl)))
end
/-! declaring one row more -/
theorem decl_row {P : Program} {w : World} {K : PySem.W.Frag} {CS : Addr} {H : Hp} {sg l : Addr} {tg : SgO} {tl ot : List Nat} {rows : List WRow} {i : Nat} {r : WRow} (wo : WOk tl ot rows) (hr : rows[i]? = some r) (sgA : SigAt CS H sg tg [S tl, S ot] ((rows.take i).map WRow.fn)) (el : H l = some (.lst (r.args.map vS))) {Q : VK} {E : XK}
    (q : ∀ H', Ch [tg.df] H H' → SigAt CS H' sg tg [S tl, S ot] ((rows.take (i + 1)).map WRow.fn) → Q .non H') : spDeclF K CS [.ref sg, vS r.name, .ref l, vS r.res] H Q E := by
  have hrm := List.mem_of_getElem? hr
  obtain ⟨m1, m2, m3, m4⟩ := wo.nm r hrm
  obtain ⟨a1, a2⟩ := wo.ar r hrm
  have a3 := wo.rs r hrm
  have okl : ∀ {z : List Nat}, z ∈ sort5 tl ot → okSort [S tl, S ot] z := fun {z} hz => by
    unfold sort5 at hz
    simp only [List.mem_cons, List.not_mem_nil, or_false] at hz
    rcases hz with e | e | e | e | e
    · rw [e]; exact .inr (by simp)
    · rw [e]; exact .inl (by decide)
    · rw [e]; exact .inl (by decide)
    · rw [e]; exact .inl (by decide)
    · rw [e]; exact .inr (by simp)
  have hir := (List.getElem?_eq_some_iff.mp hr).1
  refine ⟨sg, tg, [S tl, S ot], _, r.name, l, r.args, r.res, rfl, sgA, m2, m1, ?_, ?_, ?_, el, by omega, fun z hz => ⟨okl (a2 z hz).1, (a2 z hz).2⟩, okl a3, fun H3 c3 sg3 => q H3 c3 ?_⟩
  · simp only [List.mem_cons, List.not_mem_nil, or_false, not_or]
    exact ⟨fun z => m3 (S_inj z), fun z => m4 (S_inj z)⟩
  · refine lookup_fn fun z => ?_
    rw [List.mem_map] at z
    obtain ⟨r', hr', en⟩ := z
    obtain ⟨j, hj⟩ := List.mem_iff_getElem?.mp hr'
    have hj1 := (List.getElem?_eq_some_iff.mp hj).1
    rw [List.length_take] at hj1
    rw [List.getElem?_take, if_pos (by omega)] at hj
    have nd := wo.nd
    rw [List.nodup_iff_pairwise_ne, List.pairwise_iff_getElem] at nd
    obtain ⟨j2, j3⟩ := List.getElem?_eq_some_iff.mp hj
    obtain ⟨i2, i3⟩ := List.getElem?_eq_some_iff.mp hr
    exact nd j i (by rw [List.length_map]; exact j2) (by rw [List.length_map]; exact i2) (by omega) (by rw [List.getElem_map, List.getElem_map, j3, i3]; exact en)
  · rw [List.length_map, List.length_take]
    have := wo.len
    omega
  · rw [List.take_add_one, hr, List.map_append]
    exact sg3
/-! the table at the start -/
def gs0 : List GRow := [⟨TRUEc, .none, [], TRUTH⟩, ⟨FALSEc, .none, [], TRUTH⟩]
theorem gs0_b : gs0.map GRow.b = rs0 := rfl
/-- models that were made, the last one first -/
abbrev Mdl := Addr × Addr × Addr × List Addr
def acc0 (L : List Mdl) (B : List Addr) : List Addr := L.foldl (fun a x => x.1 :: x.2.2.1 :: x.2.1 :: a) B
theorem acc0_snoc (L : List Mdl) (B : List Addr) (x : Mdl) : acc0 (L ++ [x]) B = x.1 :: x.2.2.1 :: x.2.1 :: acc0 L B := by
  unfold acc0
  rw [List.foldl_append]
  rfl
theorem LV.upd {H : Hp} {l : List Addr} {D : Addr} {u : HO} (h : LV H l) : LV (upd H D u) l := fun b hb => by
  by_cases e : b = D
  · exact ⟨u, by rw [e]; exact upd_same⟩
  · obtain ⟨o, ho⟩ := h b hb
    exact ⟨o, by rw [upd_ne e]; exact ho⟩
theorem good0 (rows : List WRow) : Good rows gs0 := fun g hg => by
  unfold gs0 at hg
  simp only [List.mem_cons, List.not_mem_nil, or_false] at hg
  rcases hg with rfl | rfl
  · exact ⟨⟨fun n hn => (by cases hn), .tr⟩, by decide⟩
  · exact ⟨⟨fun n hn => (by cases hn), .fa⟩, by decide⟩
end L

namespace L
open PySem PySem.Spec PyProof.Rows L2 Z M DT
open _root_.SX (S S_len S_inj)
theorem sq_base {K : PySem.W.Frag} {H H' : Hp} {Pt a : Addr} {xs : List V} (h : SqL K H a xs) (hP : ∃ ps, H Pt = some (.tbl ps)) (c : Ch [Pt] H H') : SqL K H' a xs := by
  obtain ⟨ps, hP⟩ := hP
  have k : ∀ {o : HO}, H a = some o → (∀ ps, o ≠ .tbl ps) → H' a = some o := fun {o} e n => c _ _ (fun z => by
    rw [List.mem_singleton.mp z, hP] at e
    exact n ps (Option.some.inj e).symm) e
  rcases h with (h | ⟨o, h⟩) | h
  · exact .inl (.inl (k h fun _ z => nomatch z))
  · exact .inl (.inr ⟨o, k h fun _ z => nomatch z⟩)
  · exact .inr h
/-! what holds between the makings -/
def LI (P : Program) (w : World) (CB CS Pt : Addr) (H Hn : Hp) (q : Addr) (X Y : LX) (Lb Lm : Addr) (ra : List Addr) (tl ot : List Nat) (rows : List WRow) (n : Nat) : Prop :=
  ∃ (ux wx uy wy : List Addr) (gx gy : List GRow), Law2 P w CB CS Pt Hn X Y Lb Lm ra tl ot rows ux wx uy wy gx gy ∧ PoolAt Hn q ∧ Ch [Pt] H Hn ∧ Hn Lb = some (.lst [.ref X.o, .ref Y.o]) ∧ Hn Lm = some (.lst [.ref X.mo, .ref Y.mo]) ∧ (1 ≤ gx.length ∧ gx.length ≤ n) ∧ 1 ≤ gy.length ∧ gy.length ≤ n
section
variable {P : Program} {w : World} {CB CS Pt : Addr} {H Hn H2 : Hp} {q : Addr} {X Y : LX} {Lb Lm : Addr} {ra : List Addr} {tl ot : List Nat} {rows : List WRow} {n : Nat}
theorem LI.same (h : LI P w CB CS Pt H Hn q X Y Lb Lm ra tl ot rows n) (s : Same Hn H2) : LI P w CB CS Pt H H2 q X Y Lb Lm ra tl ot rows n := by
  obtain ⟨ux, wx, uy, wy, gx, gy, l, hp, b, e1, e2, g1, g2⟩ := h
  exact ⟨ux, wx, uy, wy, gx, gy, l.same s, hp.same s, base_same b s, s _ _ e1, s _ _ e2, g1, g2⟩
theorem LI.px {q' : Addr} (h : LI P w CB CS Pt H Hn q X Y Lb Lm ra tl ot rows n) (hp' : PoolAt Hn q') (f : H q' = none) (s : PX q' Hn H2) : LI P w CB CS Pt H H2 q X Y Lb Lm ra tl ot rows n := by
  obtain ⟨ux, wx, uy, wy, gx, gy, l, hp, b, e1, e2, g1, g2⟩ := h
  have nq := l.nq hp'
  have hq : PoolAt H2 q := by
    by_cases e : q = q'
    · rw [e]; exact s.2
    · obtain ⟨o, ho, hi⟩ := hp
      exact ⟨o, s.3 _ _ e ho, hi⟩
  exact ⟨ux, wx, uy, wy, gx, gy, l.px hp' s, hq, base_px b s f, s.3 _ _ nq.1 e1, s.3 _ _ nq.2 e2, g1, g2⟩
theorem LI.mono {m : Nat} (h : LI P w CB CS Pt H Hn q X Y Lb Lm ra tl ot rows n) (k : n ≤ m) : LI P w CB CS Pt H Hn q X Y Lb Lm ra tl ot rows m := by
  obtain ⟨ux, wx, uy, wy, gx, gy, l, hp, b, e1, e2, g1, g2⟩ := h
  exact ⟨ux, wx, uy, wy, gx, gy, l, hp, b, e1, e2, ⟨g1.1, Nat.le_trans g1.2 k⟩, g2.1, Nat.le_trans g2.2 k⟩
/-- a making in the first bank -/
theorem LI.stepX (h : LI P w CB CS Pt H Hn q X Y Lb Lm ra tl ot rows n) (fX : ∀ b ∈ X.mut, H b = none) (fq : H q = none) : ∃ (ux wx : List Addr) (gx : List GRow), SAt P w CB CS Pt Hn X ra tl ot rows ux wx gx ∧ PoolAt Hn q ∧ Hn Lb = some (.lst [.ref X.o, .ref Y.o]) ∧ Hn Lm = some (.lst [.ref X.mo, .ref Y.mo]) ∧ (1 ≤ gx.length ∧ gx.length ≤ n) ∧
    ∀ (H2 : Hp) (uz2 wz2 : List Addr) (g : GRow), Ch (q :: Pt :: X.mut) Hn H2 → SAt P w CB CS Pt H2 X ra tl ot rows uz2 wz2 (putG gx g) → PoolAt H2 q → LI P w CB CS Pt H H2 q X Y Lb Lm ra tl ot rows (n + 1) := by
  obtain ⟨ux, wx, uy, wy, gx, gy, l, hp, b, e1, e2, g1, g2⟩ := h
  refine ⟨ux, wx, gx, l.x, hp, e1, e2, g1, fun H2 uz2 wz2 g c s hp2 => ?_⟩
  obtain ⟨l2, k1, k2⟩ := l.step hp c s
  have hgl := putG_len gx g
  have hg0 : gx.length ≤ (putG gx g).length := by unfold putG; split <;> simp
  exact ⟨uz2, wz2, uy, wy, _, gy, l2, hp2, base_ch b c fun x hx => (by
    rcases List.mem_cons.mp hx with z | hx
    · exact .inr (by rw [z]; exact fq)
    rcases List.mem_cons.mp hx with z | hx
    · exact .inl z
    · exact .inr (fX x hx)), k1 _ e1, k2 _ e2, ⟨by omega, by omega⟩, g2.1, by omega⟩
theorem LI.pool (h : LI P w CB CS Pt H Hn q X Y Lb Lm ra tl ot rows n) : PoolAt Hn q := by
  obtain ⟨_, _, _, _, _, _, _, hp, _⟩ := h
  exact hp
theorem LI.wd (h : LI P w CB CS Pt H Hn q X Y Lb Lm ra tl ot rows n) : W3At Hn X.wb X.rb ra tl ot rows := by
  obtain ⟨_, _, _, _, _, _, l, _⟩ := h
  exact l.x.wd
theorem LI.base (h : LI P w CB CS Pt H Hn q X Y Lb Lm ra tl ot rows n) : Ch [Pt] H Hn := by
  obtain ⟨_, _, _, _, _, _, _, _, b, _⟩ := h
  exact b
theorem LI.tb (h : LI P w CB CS Pt H Hn q X Y Lb Lm ra tl ot rows n) : GxR.TabG Hn Pt := by
  obtain ⟨_, _, _, _, _, _, l, _⟩ := h
  exact l.x.tb
/-- one of the two banks -/
theorem LI.pick {wh : Int} (h : LI P w CB CS Pt H Hn q X Y Lb Lm ra tl ot rows n) (hw : wh = 0 ∨ wh = 1) (fX : ∀ b ∈ X.mut, H b = none) (fY : ∀ b ∈ Y.mut, H b = none) (eXY : X.wb = Y.wb) (fq : H q = none) :
    ∃ (Z Z' : LX) (uz wz uz' wz' : List Addr) (gz gz' : List GRow), Law2 P w CB CS Pt Hn Z Z' Lb Lm ra tl ot rows uz wz uz' wz' gz gz' ∧ PoolAt Hn q ∧ Ch [Pt] H Hn ∧ Hn Lb = some (.lst [.ref X.o, .ref Y.o]) ∧ Hn Lm = some (.lst [.ref X.mo, .ref Y.mo]) ∧ (1 ≤ gz.length ∧ gz.length ≤ n) ∧ (1 ≤ gz'.length ∧ gz'.length ≤ n) ∧
      atI [V.ref X.o, .ref Y.o] wh = some (.ref Z.o) ∧ atI [V.ref X.mo, .ref Y.mo] wh = some (.ref Z.mo) ∧ atI [V.ref X.o, .ref Y.o] (1 - wh) = some (.ref Z'.o) ∧ atI [V.ref X.mo, .ref Y.mo] (1 - wh) = some (.ref Z'.mo) ∧ Z.wb = X.wb ∧ (∀ b ∈ Z.mut, H b = none) ∧
      ∀ (H2 : Hp) (q' : Addr) (uz2 wz2 : List Addr) (g : GRow), PoolAt Hn q' → H q' = none → Ch (q' :: Pt :: Z.mut) Hn H2 → SAt P w CB CS Pt H2 Z ra tl ot rows uz2 wz2 (putG gz g) → PoolAt H2 q' →
        LI P w CB CS Pt H H2 q X Y Lb Lm ra tl ot rows (n + 1) ∧ ∃ (uz2' wz2' : List Addr), Law2 P w CB CS Pt H2 Z Z' Lb Lm ra tl ot rows uz2 wz2 uz' wz' (putG gz g) gz' := by
  obtain ⟨ux, wx, uy, wy, gx, gy, l, hp, b, e1, e2, g1, g2⟩ := h
  have keepq : ∀ (Z : LX) (uz wz : List Addr) (gz : List GRow) (H2 : Hp) (q' : Addr), SAt P w CB CS Pt Hn Z ra tl ot rows uz wz gz → PoolAt Hn q' → Ch (q' :: Pt :: Z.mut) Hn H2 → PoolAt H2 q' → PoolAt H2 q := fun Z uz wz gz H2 q' sz hp' c hp2 => by
    by_cases e : q = q'
    · rw [e]; exact hp2
    · obtain ⟨o, ho, hi⟩ := id hp
      refine ⟨o, c _ _ (fun z => ?_) ho, hi⟩
      rcases List.mem_cons.mp z with z | z
      · exact e z
      rcases List.mem_cons.mp z with z | z
      · obtain ⟨ps, hps, _⟩ := sz.tb
        exact pool_ne hp hps (fun _ z => nomatch z) z
      · exact (sz.nq hp).2 z
  rcases hw with rfl | rfl
  · refine ⟨X, Y, ux, wx, uy, wy, gx, gy, l, hp, b, e1, e2, g1, g2, rfl, rfl, rfl, rfl, rfl, fX, fun H2 q' uz2 wz2 g hp' fq' c s hp2 => ?_⟩
    obtain ⟨l2, k1, k2⟩ := l.step hp' c s
    have hgl := putG_len gx g
    have hg0 : gx.length ≤ (putG gx g).length := by unfold putG; split <;> simp
    exact ⟨⟨uz2, wz2, uy, wy, _, gy, l2, keepq X ux wx gx H2 q' l.x hp' c hp2, base_ch b c fun x hx => (by
      rcases List.mem_cons.mp hx with z | hx
      · exact .inr (by rw [z]; exact fq')
      rcases List.mem_cons.mp hx with z | hx
      · exact .inl z
      · exact .inr (fX x hx)), k1 _ e1, k2 _ e2, ⟨by omega, by omega⟩, g2.1, by omega⟩, uz2, wz2, l2⟩
  · refine ⟨Y, X, uy, wy, ux, wx, gy, gx, l.swap, hp, b, e1, e2, g2, g1, rfl, rfl, rfl, rfl, eXY.symm, fY, fun H2 q' uz2 wz2 g hp' fq' c s hp2 => ?_⟩
    obtain ⟨l2, k1, k2⟩ := l.swap.step hp' c s
    have hgl := putG_len gy g
    have hg0 : gy.length ≤ (putG gy g).length := by unfold putG; split <;> simp
    exact ⟨⟨ux, wx, uz2, wz2, gx, _, l2.swap, keepq Y uy wy gy H2 q' l.y hp' c hp2, base_ch b c fun x hx => (by
      rcases List.mem_cons.mp hx with z | hx
      · exact .inr (by rw [z]; exact fq')
      rcases List.mem_cons.mp hx with z | hx
      · exact .inl z
      · exact .inr (fY x hx)), k1 _ e1, k2 _ e2, ⟨g1.1, by omega⟩, by omega, by omega⟩, uz2, wz2, l2⟩
end
end L

namespace L
open PySem PySem.Spec PyProof.Rows L2 Z M DT
open _root_.SX (S S_len S_inj)
section
variable {P : Program} {w : World} {K : PySem.W.Frag} {mg : Str → Option Value} {base : Heap}
def spLaw (K : PySem.W.Frag) (Pt : Addr) : Sp := fun vs H Q _ => ∃ (a : Addr) (ns : List Int), vs = [.ref a] ∧ SqL K H a (ns.map V.int) ∧ ns.length ≤ 63 ∧ H Pt = some (.tbl #[]) ∧ ∀ H', Q (.bl true) H'
theorem ok_law (T : Txt K mg) (W : Tw K mg T w) (TB : GxR.TabB base mg T.c_ao T.P_ao) : FnOk P w K mg base CX0 14 T.f_law T.fd_law ["_law_script"] (spLaw K T.P_ao) := by
  have G_pool := ok_pool (P := P) (w := w) (base := base) T
  have G_take := ok_take (P := P) (w := w) (base := base) T
  have G_world := ok_world (P := P) (w := w) (base := base) T
  have G_wide := ok_wide (P := P) (w := w) (base := base) T
  have G_Signature_init := ok_sigInit (P := P) (w := w) (base := base) T
  have G_Signature_declare_sort := ok_declS (P := P) (w := w) (base := base) T
  have G_Signature_declare_function := ok_declF (P := P) (w := w) (base := base) T
  have G_Signature_functions := ok_functions (P := P) (w := w) (base := base) T
  have G_Bank_init := ok_bkInit (P := P) (base := base) T W TB
  have G_Bank_len := ok_lenB (P := P) (w := w) (base := base) T
  have G_making := ok_making (P := P) (w := w) (base := base) T
  have G_again := ok_again (P := P) (w := w) (base := base) T
  have G_step := ok_step (P := P) (base := base) T W TB
  have G_end := ok_end (P := P) (w := w) (base := base) T
  refine T.F_law.ok sc_law (fun vs H Q E h => ?_) (fun cdv A outer s H vs Q E hr h => ?_)
  · obtain ⟨a, ns, rfl, _⟩ := h
    rfl
  · obtain ⟨a, ns, rfl, hS, hn, hPt, h⟩ := h
    have tb0 : GxR.TabG H T.P_ao := ⟨#[], hPt, trivial⟩
    refine ⟨_, (pss_cons (ps_set (i := 1) sc_law.nd rfl (.inl rfl) (pe_call G_pool (hr.mono (by first | decide | omega)) (by rfl) T.g_pool T.F_pool.kp T.b_pool .nil pass0 (pa_cons (pv 0) (pa_cons pe_int pa_nil))))
 (pss_cons (ps_set (i := 2) sc_law.nd rfl (.inl rfl) (pe_call G_pool (hr.mono (by first | decide | omega)) (by rfl) T.g_pool T.F_pool.kp T.b_pool .nil pass0 (pa_cons (pv 0) (pa_cons pe_int pa_nil))))
 (pss_cons (ps_set (i := 3) sc_law.nd rfl (.inr rfl) (pe_call G_wide (hr.mono (by first | decide | omega)) (by rfl) T.g_wide T.F_wide.kp T.b_wide .nil pass0 (pa_cons (pv 2) (pa_cons (pe_call G_world (hr.mono (by first | decide | omega)) (by rfl) T.g_world T.F_world.kp T.b_world .nil pass0 (pa_cons (pv 2) pa_nil)) pa_nil))))
 (pss_cons (ps_set (i := 4) sc_law.nd rfl (.inl rfl) (pe_make0 T.mk_Signature G_Signature_init (hr.mono (by first | decide | omega)) (by rfl) T.c_Signature T.b_Signature_init .nil pass0))
 (pss_cons (ps_expr (pe_meth (pv 4) T.cl_Signature T.M_Signature_declare_sort G_Signature_declare_sort (hr.mono (by first | decide | omega)) T.b_Signature_declare_sort .nil pass0 (pa_cons (pe_ix ix_list (pv 3) pe_int (fun _ _ => rfl)) pa_nil)))
 (pss_cons (ps_expr (pe_meth (pv 4) T.cl_Signature T.M_Signature_declare_sort G_Signature_declare_sort (hr.mono (by first | decide | omega)) T.b_Signature_declare_sort .nil pass0 (pa_cons (pe_ix ix_list (pv 3) pe_int (fun _ _ => rfl)) pa_nil)))
 (pss_cons (ps_set (i := 5) sc_law.nd rfl (.inl rfl) (pe_call G_take (hr.mono (by first | decide | omega)) (by rfl) T.g_take T.F_take.kp T.b_take .nil pass0 (pa_cons (pv 1) (pa_cons (pe_op op_add (pe_callB call_len_seq (by rfl) T.m_len (by decide +kernel) (pa_cons (pe_ix ix_list (pv 3) pe_int (fun _ _ => rfl)) pa_nil)) pe_int) pa_nil))))
 (pss_cons (ps_for PassesOwn.never rfl (pi_list (pe_slice sl_list (pe_ix ix_list (pv 3) pe_int (fun _ _ => rfl)) po_none (po_some (pv 5)))) (pg_name (i := 6) sc_law.nd rfl (.inl rfl)) (pss_one (ps_expr (pe_meth (pv 4) T.cl_Signature T.M_Signature_declare_function G_Signature_declare_function (hr.mono (by first | decide | omega)) T.b_Signature_declare_function .nil pass0 (pa_cons (pe_ix ix_tup (pv 6) pe_int (fun _ _ => rfl)) (pa_cons (pe_callTy call_list_of (by rfl) T.m_list (by decide +kernel) (pa_cons (pe_ix ix_tup (pv 6) pe_int (fun _ _ => rfl)) pa_nil)) (pa_cons (pe_ix ix_tup (pv 6) pe_int (fun _ _ => rfl)) pa_nil)))))))
 (pss_cons (ps_set (i := 7) sc_law.nd rfl (.inl rfl) (pe_lst (pa_cons (pe_make T.mk_Bank G_Bank_init (hr.mono (by first | decide | omega)) (by rfl) T.c_Bank T.b_Bank_init .nil pass0 (pa_cons (pv 4) pa_nil)) (pa_cons (pe_make T.mk_Bank G_Bank_init (hr.mono (by first | decide | omega)) (by rfl) T.c_Bank T.b_Bank_init .nil pass0 (pa_cons (pv 4) pa_nil)) pa_nil))))
 (pss_cons (ps_setLc (i := 8) (own := [("_law_k", 9)]) (g := gName 9) (tt := tYes) (by rfl) sc_law.nd rfl rfl (sw_true rfl rfl rfl (by decide +kernel)) (pi_range1 (by rfl) T.m_range (pa_cons pe_int pa_nil)) (blkOk_by (own := [("_law_k", 9)]) (N := N_law) (sc := defScope s_law) (by decide +kernel)) (fun _ _ _ _ _ => pg_name (i := 9) sc_law.nd rfl (Or.inl rfl)) (fun _ _ _ _ _ => pts_nil) (fun _ _ _ _ _ => (pe_lst (pa_cons (pe_lst (pa_cons (pe_tup (pa_cons (MT.pe_strS (l := [116, 114, 117, 101]) (by decide +kernel)) (pa_cons pe_non (pa_cons (pe_tup pa_nil) pa_nil)))) (pa_cons (pe_tup (pa_cons (MT.pe_strS (l := [102, 97, 108, 115, 101]) (by decide +kernel)) (pa_cons pe_non (pa_cons (pe_tup pa_nil) pa_nil)))) pa_nil))) (pa_cons (pe_lst (pa_cons (MT.pe_strS (l := [116, 114, 117, 116, 104]) (by decide +kernel)) (pa_cons (MT.pe_strS (l := [116, 114, 117, 116, 104]) (by decide +kernel)) pa_nil))) pa_nil)))))
 (pss_cons (ps_set (i := 10) sc_law.nd rfl (.inl rfl) (pe_fld (pe_ix ix_list (pv 7) (pe_call G_take (hr.mono (by first | decide | omega)) (by rfl) T.g_take T.F_take.kp T.b_take .nil pass0 (pa_cons (pv 1) (pa_cons pe_int pa_nil))) (fun _ _ => rfl)) rfl))
 (pss_cons (ps_for PassesOwn.never rfl (pi_list (pe_slice sl_list (pe_ix ix_list (pv 3) pe_int (fun _ _ => rfl)) (po_some (pv 5)) po_none)) (pg_name (i := 6) sc_law.nd rfl (.inl rfl)) (pss_one (ps_expr (pe_meth (pv 10) T.cl_Signature T.M_Signature_declare_function G_Signature_declare_function (hr.mono (by first | decide | omega)) T.b_Signature_declare_function .nil pass0 (pa_cons (pe_ix ix_tup (pv 6) pe_int (fun _ _ => rfl)) (pa_cons (pe_callTy call_list_of (by rfl) T.m_list (by decide +kernel) (pa_cons (pe_ix ix_tup (pv 6) pe_int (fun _ _ => rfl)) pa_nil)) (pa_cons (pe_ix ix_tup (pv 6) pe_int (fun _ _ => rfl)) pa_nil)))))))
 (pss_cons (ps_if (pt_cmpR (op_neD hr.units) (pe_meth0 (pv 4) T.cl_Signature T.M_Signature_functions G_Signature_functions (hr.mono (by first | decide | omega)) T.b_Signature_functions .nil pass0) (pe_lc (own := [("_law_row", 6)]) (g := gName 6) (tt := tYes) (by rfl) sc_law.nd (pi_list (pe_ix ix_list (pv 3) pe_int (fun _ _ => rfl))) (blkOk_by (own := [("_law_row", 6)]) (N := N_law) (sc := defScope s_law) (by decide +kernel)) (fun _ _ _ _ _ => pg_name (i := 6) sc_law.nd rfl (Or.inl rfl)) (fun _ _ _ _ _ => pts_nil) (fun _ _ _ _ _ => (pe_ix (show IxR _ (rIxT K) from ix_tup) (pv 6) pe_int (fun _ _ => rfl)))) (nomark _)) (pss_one (ps_ret pe_bl)) pss_nil)
 (pss_cons (ps_set (i := 11) sc_law.nd rfl (.inl rfl) (pe_op op_sub (pe_call G_take (hr.mono (by first | decide | omega)) (by rfl) T.g_take T.F_take.kp T.b_take .nil pass0 (pa_cons (pv 1) (pa_cons pe_int pa_nil))) pe_int))
 (pss_cons (ps_set (i := 12) sc_law.nd rfl (.inl rfl) pe_int)
 (pss_cons (ps_if (pt_cmpR op_eq (pe_call G_take (hr.mono (by first | decide | omega)) (by rfl) T.g_take T.F_take.kp T.b_take .nil pass0 (pa_cons (pv 1) (pa_cons pe_int pa_nil))) pe_int (nomark _)) (pss_one (ps_set (i := 12) sc_law.nd rfl (.inl rfl) (pe_call G_take (hr.mono (by first | decide | omega)) (by rfl) T.g_take T.F_take.kp T.b_take .nil pass0 (pa_cons (pv 1) (pa_cons pe_int pa_nil))))) pss_nil)
 (pss_cons (ps_for PassesOwn.never rfl (pi_range1 (by rfl) T.m_range (pa_cons (pv 12) pa_nil)) (pg_name (i := 9) sc_law.nd rfl (.inl rfl)) (pss_one (ps_if (pt_not (pt_val (pe_call G_step (hr.mono (by first | decide | omega)) (by rfl) T.g_step T.F_step.kp T.b_step .nil pass0 (pa_cons (pv 1) (pa_cons (pv 3) (pa_cons (pe_ix ix_list (pv 7) pe_int (fun _ _ => rfl)) (pa_cons (pe_ix ix_list (pv 8) pe_int (fun _ _ => rfl)) (pa_cons (pe_tup (pa_cons (MT.pe_strS (l := [119, 104, 111, 108, 101]) (by decide +kernel)) (pa_cons (pe_op op_add (pv 11) (pv 9)) (pa_cons (pe_lst pa_nil) pa_nil)))) pa_nil)))))))) (pss_one (ps_ret pe_bl)) pss_nil)))
 (pss_cons (ps_for PassesOwn.never rfl (pi_list (pe_slice sl_list (pe_lc (own := [("_law_k", 9)]) (g := gName 9) (tt := tYes) (by rfl) sc_law.nd (pi_list (pe_lst (pa_cons pe_int (pa_cons pe_int (pa_cons pe_int (pa_cons pe_int (pa_cons pe_int (pa_cons pe_int pa_nil)))))))) (blkOk_by (own := [("_law_k", 9)]) (N := N_law) (sc := defScope s_law) (by decide +kernel)) (fun _ _ _ _ _ => pg_name (i := 9) sc_law.nd rfl (Or.inl rfl)) (fun _ _ _ _ _ => pts_nil) (fun _ _ _ _ _ => (pe_ix (show IxR _ (rIxL K) from ix_list) (pe_ix (show IxR _ (rIxL K) from ix_list) (pv 3) pe_int (fun _ _ => rfl)) (pv 9) (fun _ _ => rfl)))) po_none (po_some (pe_call G_take (hr.mono (by first | decide | omega)) (by rfl) T.g_take T.F_take.kp T.b_take .nil pass0 (pa_cons (pv 1) (pa_cons pe_int pa_nil)))))) (pg_name (i := 6) sc_law.nd rfl (.inl rfl)) (pss_one (ps_if (pt_not (pt_val (pe_call G_step (hr.mono (by first | decide | omega)) (by rfl) T.g_step T.F_step.kp T.b_step .nil pass0 (pa_cons (pv 1) (pa_cons (pv 3) (pa_cons (pe_ix ix_list (pv 7) pe_int (fun _ _ => rfl)) (pa_cons (pe_ix ix_list (pv 8) pe_int (fun _ _ => rfl)) (pa_cons (pe_tup (pa_cons (MT.pe_strS (l := [99, 97, 108, 108]) (by decide +kernel)) (pa_cons (pe_ix ix_tup (pv 6) pe_int (fun _ _ => rfl)) (pa_cons (pe_lst pa_nil) pa_nil)))) pa_nil)))))))) (pss_one (ps_ret pe_bl)) pss_nil)))
 (pss_cons (ps_for PassesOwn.never rfl (pi_range1 (by rfl) T.m_range (pa_cons (pe_op op_add pe_int (pe_call G_take (hr.mono (by first | decide | omega)) (by rfl) T.g_take T.F_take.kp T.b_take .nil pass0 (pa_cons (pv 1) (pa_cons pe_int pa_nil)))) pa_nil)) (pg_name (i := 9) sc_law.nd rfl (.inl rfl)) (pss_cons (ps_set (i := 13) sc_law.nd rfl (.inl rfl) (pe_call G_pool (hr.mono (by first | decide | omega)) (by rfl) T.g_pool T.F_pool.kp T.b_pool .nil pass0 (pa_cons (pv 0) (pa_cons (pe_op op_add (pv 9) pe_int) pa_nil))))
 (pss_cons (ps_set (i := 14) sc_law.nd rfl (.inl rfl) (pe_op op_fdiv (pe_callTy call_int1 (by rfl) T.m_int (by decide +kernel) (pa_cons (pe_call G_take (hr.mono (by first | decide | omega)) (by rfl) T.g_take T.F_take.kp T.b_take .nil pass0 (pa_cons (pv 13) (pa_cons pe_int pa_nil))) pa_nil)) pe_int))
 (pss_cons (ps_set (i := 15) sc_law.nd rfl (.inl rfl) (pe_ix ix_list (pv 8) (pv 14) (fun _ _ => rfl)))
 (pss_cons (ps_set (i := 16) sc_law.nd rfl (.inl rfl) (pe_call G_making (hr.mono (by first | decide | omega)) (by rfl) T.g_making T.F_making.kp T.b_making .nil pass0 (pa_cons (pv 13) (pa_cons (pv 3) (pa_cons (pe_ix ix_list (pv 15) pe_int (fun _ _ => rfl)) pa_nil)))))
 (pss_cons (ps_if (pt_cmpR op_eq (pe_call G_take (hr.mono (by first | decide | omega)) (by rfl) T.g_take T.F_take.kp T.b_take .nil pass0 (pa_cons (pv 13) (pa_cons pe_int pa_nil))) pe_int (nomark _)) (pss_one (ps_set (i := 16) sc_law.nd rfl (.inl rfl) (pe_call G_again (hr.mono (by first | decide | omega)) (by rfl) T.g_again T.F_again.kp T.b_again .nil pass0 (pa_cons (pv 13) (pa_cons (pe_ix ix_list (pv 15) pe_int (fun _ _ => rfl)) pa_nil))))) pss_nil)
 (pss_cons (ps_if (pt_not (pt_val (pe_call G_step (hr.mono (by first | decide | omega)) (by rfl) T.g_step T.F_step.kp T.b_step .nil pass0 (pa_cons (pv 13) (pa_cons (pv 3) (pa_cons (pe_ix ix_list (pv 7) (pv 14) (fun _ _ => rfl)) (pa_cons (pv 15) (pa_cons (pv 16) pa_nil)))))))) (pss_one (ps_ret pe_bl)) pss_nil)
 (pss_one (ps_if (pt_cmpR op_ne (pe_callB (OWN.call_lenOwn T.ln_Bank G_Bank_len T.b_Bank_len (hr.mono (by first | decide | omega))) (by rfl) T.m_len (by decide +kernel) (pa_cons (pe_ix ix_list (pv 7) (pe_op op_sub pe_int (pv 14)) (fun _ _ => rfl)) pa_nil)) (pe_callB call_len_seq (by rfl) T.m_len (by decide +kernel) (pa_cons (pe_ix ix_list (pe_ix ix_list (pv 8) (pe_op op_sub pe_int (pv 14)) (fun _ _ => rfl)) pe_int (fun _ _ => rfl)) pa_nil)) (nomark _)) (pss_one (ps_ret pe_bl)) pss_nil)))))))))
 (pss_one (ps_ret (pe_and (pe_call G_end (hr.mono (by first | decide | omega)) (by rfl) T.g_end T.F_end.kp T.b_end .nil pass0 (pa_cons (pv 1) (pa_cons (pe_ix ix_list (pv 7) pe_int (fun _ _ => rfl)) (pa_cons (pe_ix ix_list (pv 8) pe_int (fun _ _ => rfl)) pa_nil)))) (pe_one (pe_call G_end (hr.mono (by first | decide | omega)) (by rfl) T.g_end T.F_end.kp T.b_end .nil pass0 (pa_cons (pv 1) (pa_cons (pe_ix ix_list (pv 7) pe_int (fun _ _ => rfl)) (pa_cons (pe_ix ix_list (pv 8) pe_int (fun _ _ => rfl)) pa_nil))))))))))))))))))))))))))), ?_⟩
    refine Z.w_start (σ' := [some (.ref a), none, none, none, none, none, none, none, none, none, none, none, none, none, none, none, none]) rfl ?_
    walk_at "w"
    refine ⟨a, ns, 0, rfl, hS, by omega, by decide, by decide, fun q1 o1 fq1 hpo1 => ?_⟩
    have hp1 : PoolAt (upd H q1 o1) q1 := ⟨o1, upd_same, hpo1⟩
    have s1 : Same H (upd H q1 o1) := same_of (Same.refl _) fq1
    generalize upd H q1 o1 = H1 at hp1 s1 ⊢
    walk_at "w"
    refine ⟨a, ns, 1, rfl, Same.seq s1 hS, by omega, by decide, by decide, fun q2 o2 fq2 hpo2 => ?_⟩
    have fq20 : H q2 = none := fresh_of1 s1 fq2
    have n12 : q1 ≠ q2 := fun z => by
      obtain ⟨o, ho, _⟩ := hp1
      rw [z, fq2] at ho
      cases ho
    have hp2 : PoolAt (upd H1 q2 o2) q2 := ⟨o2, upd_same, hpo2⟩
    have s2 : Same H1 (upd H1 q2 o2) := same_of (Same.refl _) fq2
    generalize upd H1 q2 o2 = H2 at hp2 s2 ⊢
    have hp12 := hp1.same s2
    walk_at "w"
    refine ⟨q2, rfl, hp2, fun H3 wa rl ra0 tl names px3 wt hl15 hw wd3 _ _ => ?_⟩
    walk_at "w"
    refine ⟨q2, wa, rl, ra0, tl, _, rfl, px3.2, wd3, ?_, fun H4 wb rb ra ot names2 px4 wot hl6 hw6 w34 fwb frb => ?_⟩
    · unfold baseRows
      rw [List.length_map, List.length_zip, hl15]
      exact Nat.le_trans (Nat.min_le_left _ _) (by decide)
    have px24 := px3.trans px4
    have b4 : Ch [T.P_ao] H H4 := base_px (Ch.of (s1.trans s2)) px24 fq20
    have tb4 : GxR.TabG H4 T.P_ao := tb_px (tb_same tb0 (s1.trans s2)) hp2 px24
    have hp14 : PoolAt H4 q1 := by
      obtain ⟨o, ho, hi⟩ := hp12
      exact ⟨o, px24.3 _ _ n12 ho, hi⟩
    rw [rows_eq hl15] at w34
    have wo : WOk tl ot (rowsOf (names ++ names2) (baseSig tl ++ wideSig tl ot)) := by
      refine world_ok wt wot (by rw [List.length_append, hl15, hl6]) fun k n e => ?_
      by_cases hk : k < 15
      · rw [List.getElem?_append_left (by rw [hl15]; exact hk)] at e
        rw [if_pos hk]
        exact hw k n e
      · rw [List.getElem?_append_right (by rw [hl15]; omega), hl15] at e
        rw [if_neg hk, show k + 2 = k - 15 + 17 by omega]
        exact hw6 _ n e
    generalize rowsOf (names ++ names2) (baseSig tl ++ wideSig tl ot) = rows at w34 wo
    clear px24 px3 px4 wd3 fwb frb hp2 hp12 hp1 s2 s1 wt wot hw hw6 hl15 hl6
    have ew4 := w34.w
    walk_at "w"
    refine w_make ?_
    walk_at "w"
    intro sg dx1 fsg fdx1 ndx1
    have s4' : Same H4 (upd (upd H4 dx1 (.own sg)) sg (.ins T.C_Signature dx1 [])) := same_mut (same_of (Same.refl _) fdx1) fsg
    refine ⟨sg, dx1, rfl, upd_same, fun H5 tg c5 edx sg5 fds fdf => ⟨rfl, ?_⟩⟩
    have fds4 : H4 tg.ds = none := fresh_of1 s4' fds
    have fdf4 : H4 tg.df = none := fresh_of1 s4' fdf
    have s45 : Same H4 H5 := same_ch s4' c5 fun b hb => by rw [List.mem_singleton.mp hb]; exact fsg
    clear s4' c5 fds fdf
    have b5 := base_same b4 s45
    have tb5 := tb_same tb4 s45
    have hp15 := hp14.same s45
    have w35 := w34.same s45
    have ew5 := w35.w
    have fds : H tg.ds = none := fresh_b b4 tb4 fds4
    have fdf : H tg.df = none := fresh_b b4 tb4 fdf4
    walk_at "w"
    refine w_meth0 sg5.obj rfl (by rfl) ?_
    walk_at "w"
    refine ⟨sg, tg, [], [], tl, rfl, sg5, wo.tz, wo.tn, by simp, rfl, by decide, fun H6 c6 sg6 => ?_⟩
    obtain ⟨ks5, hs5, _⟩ := sg5.so
    have b6 := base_ch b5 c6 fun b hb => .inr (by rw [List.mem_singleton.mp hb]; exact fds)
    have tb6 := tb_d tb5 hs5 c6
    have hp16 := pool_d hp15 hs5 c6
    have w36 := w35.d hs5 c6
    have ew6 := w36.w
    walk_at "w"
    refine w_meth0 sg6.obj rfl (by rfl) ?_
    walk_at "w"
    refine ⟨sg, tg, _, [], ot, rfl, sg6, wo.oz, wo.on, ?_, rfl, (show 1 ≤ 1000 by decide), fun H7 c7 sg7 => ?_⟩
    · rw [List.nil_append, List.mem_singleton]
      exact fun z => wo.ne (S_inj z).symm
    obtain ⟨ks6, hs6, _⟩ := sg6.so
    have b7 := base_ch b6 c7 fun b hb => .inr (by rw [List.mem_singleton.mp hb]; exact fds)
    have tb7 := tb_d tb6 hs6 c7
    have hp17 := pool_d hp16 hs6 c7
    have w37 := w36.d hs6 c7
    have ew7 := w37.w
    have er7 := w37.r
    have sg7 : SigAt T.C_Signature H7 sg tg [S tl, S ot] ((rows.take 0).map WRow.fn) := sg7
    clear c6 c7 sg5 sg6 hp15 hp16 w35 w36 ew5 ew6 b5 b6 tb5 tb6 s45 hs5 hs6 hp14 w34 ew4 b4 tb4 fds4 fdf4
    have hral : (ra.map V.ref).length = 21 := by rw [List.length_map, w37.len, wo.len]
    walk_at "w"
    refine use_takeP hp17 (by rw [hral]; decide) (by rw [hral]; decide) fun early H8 px8 ea0 ea1 => ?_
    rw [hral] at ea1
    obtain ⟨e, rfl⟩ := Int.eq_ofNat_of_zero_le ea0
    have he : e ≤ 21 := by omega
    have b8 := base_px b7 px8 fq1
    have tb8 := tb_px tb7 hp17 px8
    have hp18 := px8.2
    have w38 := w37.px hp17 px8
    have sg8 := sg7.ch (Ch.px px8 (List.mem_singleton.mpr rfl)) (nt_pool hp17) fun b hb => by
      obtain ⟨ks, hs, _⟩ := sg7.so
      obtain ⟨kf, hf, _⟩ := sg7.fu
      rw [List.mem_singleton.mp hb]
      exact ⟨pool_ne hp17 sg7.obj (fun _ z => nomatch z), pool_ne hp17 hs (fun _ z => nomatch z), pool_ne hp17 hf (fun _ z => nomatch z)⟩
    have ew8 := w38.w
    have er8 := w38.r
    clear b7 tb7 hp17 w37 ew7 er7 sg7 px8
    walk_at "w"
    refine w_slTo (.inl (.inl er8)) (by rw [hral]; exact he) fun SL hSL => ?_
    have s9 : Same H8 (upd H8 SL (.lst ((ra.map V.ref).take e))) := same_of (Same.refl _) hSL
    have eSL : upd H8 SL (.lst ((ra.map V.ref).take e)) SL = some (.lst ((ra.map V.ref).take e)) := upd_same
    generalize upd H8 SL (.lst ((ra.map V.ref).take e)) = H9 at s9 eSL ⊢
    have b9 := base_same b8 s9
    have tb9 := tb_same tb8 s9
    have hp19 := hp18.same s9
    have w39 := w38.same s9
    have sg9 := sg8.same s9
    obtain ⟨kf9, hf9, _⟩ := sg9.fu
    clear b8 tb8 hp18 w38 sg8 ew8 er8
    have hxl : ((ra.map V.ref).take e).length = e := by rw [List.length_take, hral]; omega
    refine ⟨SL, rfl, ⟨_, .inl (.inl eSL)⟩, ?_⟩
    refine for_list (a := SL) (xs := (ra.map V.ref).take e) (fun i σ' H' => ∃ v, σ' = [some (.ref a), some (.ref q1), some (.ref q2), some (.ref wb), some (.ref sg), some (.int (e : Int)), v, none, none, none, none, none, none, none, none, none, none] ∧ Ch [tg.df] H9 H' ∧ SigAt T.C_Signature H' sg tg [S tl, S ot] ((rows.take i).map WRow.fn)) ⟨_, rfl, Ch.refl _ _, sg9⟩ (fun i σ' H' _ ⟨_, _, c, _⟩ => .inl (.inl (lst_d eSL hf9 c))) ?_ ?_
    · rintro i x σ' H' hx ⟨v, rfl, c, sgx⟩
      have hi : i < e := by have := (List.getElem?_eq_some_iff.mp hx).1; omega
      rw [List.getElem?_take, if_pos hi, List.getElem?_map] at hx
      obtain ⟨b, hb, rfl⟩ := Option.map_eq_some_iff.mp hx
      obtain ⟨r, hr⟩ : ∃ r, rows[i]? = some r := ⟨rows[i]'(by rw [wo.len]; omega), List.getElem?_eq_getElem _⟩
      obtain ⟨bt, q1', q2'⟩ := (w39.d hf9 c).at_ i b r hb hr
      walk_at "w"
      refine w_meth0 sgx.obj rfl (by rfl) ?_
      walk_at "w"
      intro l hl
      have sl : Same H' (upd H' l (.lst (r.args.map vS))) := same_of (Same.refl _) hl
      have el : upd H' l (.lst (r.args.map vS)) l = some (.lst (r.args.map vS)) := upd_same
      have sgl := sgx.same sl
      have e1l := sl _ _ q1'
      have cl := c.trans (Ch.of sl)
      generalize upd H' l (.lst (r.args.map vS)) = H2 at sl el sgl e1l cl ⊢
      walk_at "w"
      refine decl_row (P := P) (w := w) wo hr sgl el fun H3 c3 sg3 => ?_
      walk_at "w"
      first | exact ⟨_, rfl, cl.trans c3, sg3⟩ | exact ⟨cl.trans c3, sg3⟩
    rintro σ' H10 ⟨v6, rfl, c10, sg10⟩
    rw [hxl] at sg10
    have b10 := base_ch b9 c10 fun b hb => .inr (by rw [List.mem_singleton.mp hb]; exact fdf)
    have tb10 := tb_d tb9 hf9 c10
    have hp110 := pool_d hp19 hf9 c10
    have w310 := w39.d hf9 c10
    clear b9 tb9 hp19 w39 sg9 c10 hf9 eSL s9
    have lv10 := lv_core w310 sg10
    walk_at "w"
    refine w_make ?_
    walk_at "w"
    intro o1 dx2 fo1 fdx2 ndx2
    have s10' : Same H10 (upd (upd H10 dx2 (.own o1)) o1 (.ins T.C_Bank dx2 [])) := same_mut (same_of (Same.refl _) fdx2) fo1
    have i10 : upd (upd H10 dx2 (.own o1)) o1 (.ins T.C_Bank dx2 []) o1 = some (.ins T.C_Bank dx2 []) := upd_same
    generalize upd (upd H10 dx2 (.own o1)) o1 (.ins T.C_Bank dx2 []) = Hi at s10' i10 ⊢
    refine ⟨o1, dx2, sg, tg, [S tl, S ot], _, rfl, i10, sg10.same s10', tb_same tb10 s10', fun H11 t1 us1 c11 tb11 et1 bk1 fln1 fls1 fdn1 => ⟨rfl, ?_⟩⟩
    have N1 := nd_bank (LV.cons i10 (lv10.1.same s10')) (nd_new lv10.1 lv10.2 fo1) bk1 fln1 fls1 fdn1
    have c1011 : Ch [T.P_ao] H10 H11 := base_ch (Ch.of s10') c11 fun b hb => by
      rcases List.mem_cons.mp hb with z | hb
      · exact .inr (by rw [z]; exact fo1)
      · exact .inl (List.mem_singleton.mp hb)
    have f1o := fresh_b b10 tb10 fo1
    have f1a := fresh_b b10 tb10 (fresh_of1 s10' fln1)
    have f1b := fresh_b b10 tb10 (fresh_of1 s10' fls1)
    have f1c := fresh_b b10 tb10 (fresh_of1 s10' fdn1)
    have b11 := b10.trans c1011
    have hp111 := pool_t hp110 tb10 c1011
    have w311 := w310.t tb10 c1011
    have sg11 := sg10.t tb10 c1011
    have lv11 := lv_bank (lv_core w311 sg11).1 bk1
    clear s10' i10 c11 fln1 fls1 fdn1 c1011 lv10 tb10 b10 hp110 w310 sg10 fo1
    walk_at "w"
    refine w_make ?_
    walk_at "w"
    intro o2 dx3 fo2 fdx3 ndx3
    have s11' : Same H11 (upd (upd H11 dx3 (.own o2)) o2 (.ins T.C_Bank dx3 [])) := same_mut (same_of (Same.refl _) fdx3) fo2
    have i11 : upd (upd H11 dx3 (.own o2)) o2 (.ins T.C_Bank dx3 []) o2 = some (.ins T.C_Bank dx3 []) := upd_same
    generalize upd (upd H11 dx3 (.own o2)) o2 (.ins T.C_Bank dx3 []) = Hj at s11' i11 ⊢
    refine ⟨o2, dx3, sg, tg, [S tl, S ot], _, rfl, i11, sg11.same s11', tb_same tb11 s11', fun H12 t2 us2 c12 tb12 et2 bk2 fln2 fls2 fdn2 => ⟨rfl, ?_⟩⟩
    have N2 := nd_bank (LV.cons i11 (lv11.same s11')) (nd_new lv11 N1 fo2) bk2 fln2 fls2 fdn2
    have c1112 : Ch [T.P_ao] H11 H12 := base_ch (Ch.of s11') c12 fun b hb => by
      rcases List.mem_cons.mp hb with z | hb
      · exact .inr (by rw [z]; exact fo2)
      · exact .inl (List.mem_singleton.mp hb)
    have f2o := fresh_b b11 tb11 fo2
    have f2a := fresh_b b11 tb11 (fresh_of1 s11' fln2)
    have f2b := fresh_b b11 tb11 (fresh_of1 s11' fls2)
    have f2c := fresh_b b11 tb11 (fresh_of1 s11' fdn2)
    have b12 := b11.trans c1112
    have hp112 := pool_t hp111 tb11 c1112
    have w312 := w311.t tb11 c1112
    have sg12 := sg11.t tb11 c1112
    have bk1' := bk1.t tb11 c1112
    have lv12 := lv_bank (lv_bank (lv_core w312 sg12).1 bk1') bk2
    clear s11' i11 c12 fln2 fls2 fdn2 c1112 lv11 tb11 b11 hp111 w311 sg11 fo2 N1 bk1
    walk_at "w"
    rename_i Lb hLb
    have s13 : Same H12 (upd H12 Lb (.lst [.ref o1, .ref o2])) := same_of (Same.refl _) hLb
    have eLb : upd H12 Lb (.lst [.ref o1, .ref o2]) Lb = some (.lst [.ref o1, .ref o2]) := upd_same
    have N3 := nd_new lv12 N2 hLb
    have lv13 := LV.cons eLb (lv12.same s13)
    have fLb := fresh_b b12 tb12 hLb
    generalize upd H12 Lb (.lst [.ref o1, .ref o2]) = H13 at s13 eLb lv13 ⊢
    refine ⟨by omega, by omega, fun D hD => ?_⟩
    have N4 := nd_new lv13 N3 hD
    generalize hB : Lb :: t2.dn :: t2.ls :: t2.ln :: o2 :: t1.dn :: t1.ls :: t1.ln :: o1 :: [wb, rb, sg, tg.ds, tg.df] = B at N3 N4 lv13
    refine lc_range (lo := 0) (n := _) (fun i H' => Same H13 H' ∧ ∃ L : List Mdl, L.length = i ∧ H' D = some (.lst (L.map fun x => V.ref x.1)) ∧ (∀ x ∈ L, MoAt H' x.1 x.2.1 x.2.2.1 x.2.2.2 gs0 ∧ x.1 ≠ D ∧ x.2.1 ≠ D ∧ x.2.2.1 ≠ D ∧ H13 x.2.1 = none ∧ H13 x.2.2.1 = none) ∧ (acc0 L (D :: B)).Nodup ∧ LV H' (acc0 L (D :: B))) ⟨same_of (Same.refl _) hD, [], rfl, upd_same, (fun x hx => by cases hx), N4, LV.cons upd_same (lv13.same (same_of (Same.refl _) hD))⟩ ?_ ?_
    · rintro i H' hi ⟨sm, L, hL, eD, hmo, hnd, hlv⟩
      have hi2 : i < 2 := hi
      refine Z.w_gname (σ' := [some (.ref a), some (.ref q1), some (.ref q2), some (.ref wb), some (.ref sg), some (.int (e : Int)), v6, some (.ref Lb), none, some (.int (0 + (i : Int))), none, none, none, none, none, none, none]) rfl ⟨rfl, ?_⟩
      walk_at "w"
      rename_i e1 he1 m1 hm1 e2 he2 m2 hm2 mn hmn ms hms mo hmo2
      have sa : Same H' (upd (upd (upd (upd H' e1 (.tup [])) m1 (.tup [vS TRUEc, .non, .ref e1])) e2 (.tup [])) m2 (.tup [vS FALSEc, .non, .ref e2])) := same_of (same_of (same_of (same_of (Same.refl _) he1) hm1) he2) hm2
      have k1 : upd (upd (upd (upd H' e1 (.tup [])) m1 (.tup [vS TRUEc, .non, .ref e1])) e2 (.tup [])) m2 (.tup [vS FALSEc, .non, .ref e2]) e1 = some (.tup []) := upd_of hm2 (upd_of he2 (upd_of hm1 upd_same))
      have k2 : upd (upd (upd (upd H' e1 (.tup [])) m1 (.tup [vS TRUEc, .non, .ref e1])) e2 (.tup [])) m2 (.tup [vS FALSEc, .non, .ref e2]) m1 = some (.tup [vS TRUEc, .non, .ref e1]) := upd_of hm2 (upd_of he2 upd_same)
      have k3 : upd (upd (upd (upd H' e1 (.tup [])) m1 (.tup [vS TRUEc, .non, .ref e1])) e2 (.tup [])) m2 (.tup [vS FALSEc, .non, .ref e2]) e2 = some (.tup []) := upd_of hm2 upd_same
      have k4 : upd (upd (upd (upd H' e1 (.tup [])) m1 (.tup [vS TRUEc, .non, .ref e1])) e2 (.tup [])) m2 (.tup [vS FALSEc, .non, .ref e2]) m2 = some (.tup [vS FALSEc, .non, .ref e2]) := upd_same
      generalize upd (upd (upd (upd H' e1 (.tup [])) m1 (.tup [vS TRUEc, .non, .ref e1])) e2 (.tup [])) m2 (.tup [vS FALSEc, .non, .ref e2]) = Ha at sa k1 k2 k3 k4 hmn hms hmo2 ⊢
      have lva := hlv.same sa
      have fmn : H13 mn = none := fresh_of1 (sm.trans sa) hmn
      have na := nd_new lva hnd hmn
      have sb : Same Ha (upd Ha mn (.lst [.ref m1, .ref m2])) := same_of (Same.refl _) hmn
      have kb : upd Ha mn (.lst [.ref m1, .ref m2]) mn = some (.lst [.ref m1, .ref m2]) := upd_same
      have nDn : mn ≠ D := (ne_of_none (sa _ _ eD) hmn).symm
      generalize upd Ha mn (.lst [.ref m1, .ref m2]) = Hb at sb kb hms hmo2 ⊢
      have lvb := LV.cons kb (lva.same sb)
      have fms : H13 ms = none := fresh_of1 ((sm.trans sa).trans sb) hms
      have nb := nd_new lvb na hms
      have sc : Same Hb (upd Hb ms (.lst [vS TRUTH, vS TRUTH])) := same_of (Same.refl _) hms
      have kc : upd Hb ms (.lst [vS TRUTH, vS TRUTH]) ms = some (.lst [vS TRUTH, vS TRUTH]) := upd_same
      have nDs : ms ≠ D := (ne_of_none (sb _ _ (sa _ _ eD)) hms).symm
      generalize upd Hb ms (.lst [vS TRUTH, vS TRUTH]) = Hc at sc kc hmo2 ⊢
      have lvc := LV.cons kc (lvb.same sc)
      have nc := nd_new lvc nb hmo2
      have sd : Same Hc (upd Hc mo (.lst [.ref mn, .ref ms])) := same_of (Same.refl _) hmo2
      have kdd : upd Hc mo (.lst [.ref mn, .ref ms]) mo = some (.lst [.ref mn, .ref ms]) := upd_same
      have nDo : mo ≠ D := (ne_of_none (sc _ _ (sb _ _ (sa _ _ eD))) hmo2).symm
      generalize upd Hc mo (.lst [.ref mn, .ref ms]) = Hd at sd kdd ⊢
      have lvd := LV.cons kdd (lvc.same sd)
      have sAD := ((sa.trans sb).trans sc).trans sd
      have sbd := (sb.trans sc).trans sd
      have md : MoAt Hd mo mn ms [m1, m2] gs0 := by
        refine ⟨kdd, sd _ _ (sc _ _ kb), sd _ _ kc, rfl, fun j g b f1 f2 => ?_⟩
        match j, f1, f2 with
        | 0, f1, f2 => obtain rfl := Option.some.inj f1; obtain rfl := Option.some.inj f2; exact nk_node (ns := []) (sbd _ _ k2) (by unfold ND.nk; rfl) (sbd _ _ k1)
        | 1, f1, f2 => obtain rfl := Option.some.inj f1; obtain rfl := Option.some.inj f2; exact nk_node (ns := []) (sbd _ _ k4) (by unfold ND.nk; rfl) (sbd _ _ k3)
        | n + 2, f1, f2 => exact nomatch f1
      have eDd := sAD _ _ eD
      have cD : ∀ u, Ch [D] Hd (upd Hd D u) := fun u => (Ch.refl _ _).put (List.mem_singleton.mpr rfl)
      have ntD : NoTup [D] Hd := fun b hb ys e => by rw [List.mem_singleton.mp hb, eDd] at e; cases e
      refine ⟨_, eDd, ?_, same_mut (sm.trans sAD) hD, L ++ [(mo, mn, ms, [m1, m2])], by rw [List.length_append, hL]; rfl, by rw [upd_same, List.map_append]; rfl, fun x hx => ?_, by rw [acc0_snoc]; exact nc, by rw [acc0_snoc]; exact lvd.upd⟩
      · rw [List.length_map, hL]
        exact Nat.lt_trans hi2 (by decide)
      · rcases List.mem_append.mp hx with hx | hx
        · obtain ⟨g1, g2, g3, g4, g5, g6⟩ := hmo x hx
          exact ⟨(g1.same sAD).ch (cD _) ntD fun b hb => (by rw [List.mem_singleton.mp hb]; exact ⟨g2.symm, g3.symm, g4.symm⟩), g2, g3, g4, g5, g6⟩
        · rw [List.mem_singleton.mp hx]
          exact ⟨md.ch (cD _) ntD fun b hb => (by rw [List.mem_singleton.mp hb]; exact ⟨nDo.symm, nDn.symm, nDs.symm⟩), nDo, nDn, nDs, fmn, fms⟩
    rintro H14 ⟨s14, L, hL, eD, hmo, hnd, hlv⟩
    have hL : L.length = 2 := hL
    obtain ⟨⟨mo1, mn1, ms1, ws1⟩, ⟨mo2, mn2, ms2, ws2⟩, rfl⟩ : ∃ x y, L = [x, y] := by
      match L, hL with
      | [x, y], _ => exact ⟨x, y, rfl⟩
    obtain ⟨md1, _, _, _, fn1, fs1⟩ := hmo _ List.mem_cons_self
    obtain ⟨md2, _, _, _, fn2, fs2⟩ := hmo _ (List.mem_cons_of_mem _ List.mem_cons_self)
    have fn1 : H13 mn1 = none := fn1
    have fs1 : H13 ms1 = none := fs1
    have fn2 : H13 mn2 = none := fn2
    have fs2 : H13 ms2 = none := fs2
    have md1 : MoAt H14 mo1 mn1 ms1 ws1 gs0 := md1
    have md2 : MoAt H14 mo2 mn2 ms2 ws2 gs0 := md2
    have hnd : (mo2 :: ms2 :: mn2 :: mo1 :: ms1 :: mn1 :: D :: B).Nodup := hnd
    clear hmo hlv hL
    have s1214 := s13.trans s14
    have b13 := base_same b12 s13
    have tb13 := tb_same tb12 s13
    have fn1 := fresh_b b13 tb13 fn1
    have fs1 := fresh_b b13 tb13 fs1
    have fn2 := fresh_b b13 tb13 fn2
    have fs2 := fresh_b b13 tb13 fs2
    have b14 := base_same b13 s14
    have tb14 := tb_same tb13 s14
    have hp114 := hp112.same s1214
    have w314 := w312.same s1214
    have sg14 := sg12.same s1214
    have bkx := bk1'.same s1214
    have bky := bk2.same s1214
    have eLb14 := s14 _ _ eLb
    have eLm14 : H14 D = some (.lst [.ref mo1, .ref mo2]) := eD
    clear b12 tb12 hp112 w312 sg12 bk1' bk2 b13 tb13 s13 s14 s1214 eLb eD N3 N2 lv13 lv12
    subst hB
    walk_at "w"
    refine w_fldE ?_
    walk_at "w"
    refine use_takeP hp114 (by decide) (by decide) fun r H15 px15 r0 r1 => ?_
    have b15 := base_px b14 px15 fq1
    have tb15 := tb_px tb14 hp114 px15
    have w315 := w314.px hp114 px15
    have sg15 := sg14.qx hp114 px15
    have bkx5 := bkx.qx hp114 px15
    have bky5 := bky.qx hp114 px15
    have md15 := md1.qx hp114 px15
    have md25 := md2.qx hp114 px15
    have eLb15 := px15.3 _ _ (refs_pool (ws := [o1, o2]) hp114 eLb14) eLb14
    have eLm15 := px15.3 _ _ (refs_pool (ws := [mo1, mo2]) hp114 eLm14) eLm14
    have hp115 := px15.2
    clear b14 tb14 w314 sg14 bkx bky md1 md2 eLb14 eLm14 hp114 px15
    have ew15 := w315.w
    have er15 := w315.r
    have hr2 : r = 0 ∨ r = 1 := by omega
    have hf15 : ∃ kf, H15 tg.df = some (.dK kf) := by
      obtain ⟨kf, h1, _⟩ := sg15.fu
      exact ⟨kf, h1⟩
    obtain ⟨kf15, hf15⟩ := hf15
    obtain ⟨oK, tK, usK, hatK, etK, bkK⟩ : ∃ (o : Addr) (t : BkO) (us : List Addr), atI [V.ref o1, V.ref o2] r = some (.ref o) ∧ t.sg = sg ∧ BkAt P w T.C_Bank H15 o t us rs0 := by
      rcases hr2 with e | e
      · rw [e]; exact ⟨o1, t1, us1, rfl, et1, bkx5⟩
      · rw [e]; exact ⟨o2, t2, us2, rfl, et2, bky5⟩
    refine Z.w_ixH eLb15 hatK ?_
    refine ⟨oK, _, tK.dx, _, .ref tK.sg, rfl, bkK.obj, T.cl_Bank, T.n_Bank_signature, rfl, ?_⟩
    rw [etK]
    walk_at "w"
    refine w_slFrom (.inl (.inl er15)) (by rw [hral]; exact he) fun SM hSM => ?_
    have s16 : Same H15 (upd H15 SM (.lst ((ra.map V.ref).drop e))) := same_of (Same.refl _) hSM
    have eSM : upd H15 SM (.lst ((ra.map V.ref).drop e)) SM = some (.lst ((ra.map V.ref).drop e)) := upd_same
    generalize upd H15 SM (.lst ((ra.map V.ref).drop e)) = H16 at s16 eSM ⊢
    have b16 := base_same b15 s16
    have tb16 := tb_same tb15 s16
    have hp116 := hp115.same s16
    have w316 := w315.same s16
    have sg16 := sg15.same s16
    have bkx6 := bkx5.same s16
    have bky6 := bky5.same s16
    have md16 := md15.same s16
    have md26 := md25.same s16
    have eLb16 := s16 _ _ eLb15
    have eLm16 := s16 _ _ eLm15
    have hf16 := s16 _ _ hf15
    clear b15 tb15 hp115 w315 sg15 bkx5 bky5 md15 md25 eLb15 eLm15 hf15 ew15 er15 bkK hatK s16
    have hyl : ((ra.map V.ref).drop e).length = 21 - e := by rw [List.length_drop, hral]
    refine ⟨SM, rfl, ⟨_, .inl (.inl eSM)⟩, ?_⟩
    refine for_list (a := SM) (xs := (ra.map V.ref).drop e) (fun i σ' H' => ∃ v, σ' = [some (.ref a), some (.ref q1), some (.ref q2), some (.ref wb), some (.ref sg), some (.int (e : Int)), v, some (.ref Lb), some (.ref D), none, some (.ref sg), none, none, none, none, none, none] ∧ Ch [tg.df] H16 H' ∧ SigAt T.C_Signature H' sg tg [S tl, S ot] ((rows.take (e + i)).map WRow.fn)) ⟨_, rfl, Ch.refl _ _, sg16⟩ (fun i σ' H' _ ⟨_, _, c, _⟩ => .inl (.inl (lst_d eSM hf16 c))) ?_ ?_
    · rintro i x σ' H' hx ⟨v, rfl, c, sgx⟩
      have hi : i < 21 - e := by have := (List.getElem?_eq_some_iff.mp hx).1; omega
      rw [List.getElem?_drop, List.getElem?_map] at hx
      obtain ⟨b, hb, rfl⟩ := Option.map_eq_some_iff.mp hx
      obtain ⟨r', hr'⟩ : ∃ r, rows[e + i]? = some r := ⟨rows[e + i]'(by rw [wo.len]; omega), List.getElem?_eq_getElem _⟩
      obtain ⟨bt, q1', q2'⟩ := (w316.d hf16 c).at_ (e + i) b r' hb hr'
      walk_at "w"
      refine w_meth0 sgx.obj rfl (by rfl) ?_
      walk_at "w"
      intro l hl
      have sl : Same H' (upd H' l (.lst (r'.args.map vS))) := same_of (Same.refl _) hl
      have el : upd H' l (.lst (r'.args.map vS)) l = some (.lst (r'.args.map vS)) := upd_same
      have sgl := sgx.same sl
      have e1l := sl _ _ q1'
      have cl := c.trans (Ch.of sl)
      generalize upd H' l (.lst (r'.args.map vS)) = H2 at sl el sgl e1l cl ⊢
      walk_at "w"
      refine decl_row (P := P) (w := w) wo hr' sgl el fun H3 c3 sg3 => ?_
      walk_at "w"
      first | exact ⟨_, rfl, cl.trans c3, sg3⟩ | exact ⟨cl.trans c3, sg3⟩
    rintro σ' H17 ⟨v6', rfl, c17, sg17⟩
    rw [hyl, show e + (21 - e) = rows.length by rw [wo.len]; omega, List.take_length] at sg17
    have b17 := base_ch b16 c17 fun b hb => .inr (by rw [List.mem_singleton.mp hb]; exact fdf)
    have tb17 := tb_d tb16 hf16 c17
    have hp117 := pool_d hp116 hf16 c17
    have w317 := w316.d hf16 c17
    have dj := fun is js hd => nodup_dj hnd is js hd
    have bkx7 := bkx6.d (fun z => dj [20] [12] (by decide) tg.df (by simp) (by simp [z])) hf16 c17
    have bky7 := bky6.d (fun z => dj [20] [8] (by decide) tg.df (by simp) (by simp [z])) hf16 c17
    have md17 := md16.d hf16 c17
    have md27 := md26.d hf16 c17
    have eLb17 := lst_d eLb16 hf16 c17
    have eLm17 := lst_d eLm16 hf16 c17
    clear b16 tb16 hp116 w316 sg16 bkx6 bky6 md16 md26 eLb16 eLm16 c17 hf16 eSM
    have cX : LX.core ⟨wb, rb, tg, o1, t1, mo1, mn1, ms1⟩ = [wb, rb, sg, tg.ds, tg.df, o1, mo1] := by
      show [wb, rb, t1.sg, tg.ds, tg.df, o1, mo1] = _
      rw [et1]
    have cY : LX.core ⟨wb, rb, tg, o2, t2, mo2, mn2, ms2⟩ = [wb, rb, sg, tg.ds, tg.df, o2, mo2] := by
      show [wb, rb, t2.sg, tg.ds, tg.df, o2, mo2] = _
      rw [et2]
    have sax : SAt P w T.C_Bank T.C_Signature T.P_ao H17 ⟨wb, rb, tg, o1, t1, mo1, mn1, ms1⟩ ra tl ot rows us1 ws1 gs0 :=
      ⟨w317, wo, (by show SigAt _ H17 t1.sg tg _ _; rw [et1]; exact sg17), bkx7, md17, tb17, good0 _, (by rw [cX]; exact nodup_dj hnd [14, 13, 12, 5, 4] [16, 17, 18, 19, 20, 15, 3] (by decide)), nodup_sub hnd [14, 13, 12, 5, 4] (by decide)⟩
    have say : SAt P w T.C_Bank T.C_Signature T.P_ao H17 ⟨wb, rb, tg, o2, t2, mo2, mn2, ms2⟩ ra tl ot rows us2 ws2 gs0 :=
      ⟨w317, wo, (by show SigAt _ H17 t2.sg tg _ _; rw [et2]; exact sg17), bky7, md27, tb17, good0 _, (by rw [cY]; exact nodup_dj hnd [10, 9, 8, 2, 1] [16, 17, 18, 19, 20, 11, 0] (by decide)), nodup_sub hnd [10, 9, 8, 2, 1] (by decide)⟩
    have l2 : Law2 P w T.C_Bank T.C_Signature T.P_ao H17 ⟨wb, rb, tg, o1, t1, mo1, mn1, ms1⟩ ⟨wb, rb, tg, o2, t2, mo2, mn2, ms2⟩ Lb D ra tl ot rows us1 ws1 us2 ws2 gs0 gs0 := by
      refine ⟨sax, say, fun b hb => ⟨?_, nodup_dj hnd [14, 13, 12, 5, 4] [10, 9, 8, 2, 1] (by decide) b hb⟩, fun b hb => ⟨?_, nodup_dj hnd [10, 9, 8, 2, 1] [14, 13, 12, 5, 4] (by decide) b hb⟩, ⟨[o1, o2], eLb17⟩, ⟨[mo1, mo2], eLm17⟩, ⟨nodup_dj hnd [7] [14, 13, 12, 5, 4] (by decide) Lb (by simp), nodup_dj hnd [7] [10, 9, 8, 2, 1] (by decide) Lb (by simp)⟩, nodup_dj hnd [6] [14, 13, 12, 5, 4] (by decide) D (by simp), nodup_dj hnd [6] [10, 9, 8, 2, 1] (by decide) D (by simp)⟩
      · rw [cY]
        exact nodup_dj hnd [14, 13, 12, 5, 4] [16, 17, 18, 19, 20, 11, 0] (by decide) b hb
      · rw [cX]
        exact nodup_dj hnd [10, 9, 8, 2, 1] [16, 17, 18, 19, 20, 15, 3] (by decide) b hb
    have fX : ∀ b ∈ LX.mut ⟨wb, rb, tg, o1, t1, mo1, mn1, ms1⟩, H b = none := fun b hb => by
      simp only [LX.mut, List.mem_cons, List.not_mem_nil, or_false] at hb
      rcases hb with z | z | z | z | z <;> (rw [z]; assumption)
    have fY : ∀ b ∈ LX.mut ⟨wb, rb, tg, o2, t2, mo2, mn2, ms2⟩, H b = none := fun b hb => by
      simp only [LX.mut, List.mem_cons, List.not_mem_nil, or_false] at hb
      rcases hb with z | z | z | z | z <;> (rw [z]; assumption)
    have li : LI P w T.C_Bank T.C_Signature T.P_ao H H17 q1 ⟨wb, rb, tg, o1, t1, mo1, mn1, ms1⟩ ⟨wb, rb, tg, o2, t2, mo2, mn2, ms2⟩ Lb D ra tl ot rows 2 := ⟨us1, ws1, us2, ws2, gs0, gs0, l2, hp117, b17, eLb17, eLm17, ⟨by decide, by decide⟩, by decide, by decide⟩
    have eXY : LX.wb ⟨wb, rb, tg, o1, t1, mo1, mn1, ms1⟩ = LX.wb ⟨wb, rb, tg, o2, t2, mo2, mn2, ms2⟩ := rfl
    have eX1 : LX.wb ⟨wb, rb, tg, o1, t1, mo1, mn1, ms1⟩ = wb := rfl
    clear sax say l2 cX cY hnd dj bkx7 bky7 md17 md27 eLb17 eLm17 b17 tb17 hp117 f1o f1a f1b f1c f2o f2a f2b f2c fn1 fs1 fn2 fs2
    clear hxl hyl fds fdf
    have ew17 := w317.w
    have er17 := w317.r
    walk_at "w"
    refine w_meth0 sg17.obj rfl (by rfl) ?_
    walk_at "w"
    refine ⟨sg, tg, _, _, rfl, sg17, by rw [List.length_map, wo.len]; decide, fun pf H18 s18 epf => ?_⟩
    rw [List.map_map] at epf
    have w318 := w317.same s18
    have ew18 := w318.w
    walk_at "w"
    refine ⟨⟨_, .inl (.inl w318.r)⟩, ?_⟩
    intro D3 hD3
    refine lc_list (xs := ra.map V.ref) (fun i H' => Same H18 H' ∧ H' D3 = some (.lst ((rows.take i).map fun r => V.str (S r.name)))) ⟨same_of (Same.refl _) hD3, upd_same⟩ (fun i H' _ q => .inl (.inl (q.1 _ _ w318.r))) ?_ ?_
    · rintro i x H' hx ⟨sm, eD3⟩
      rw [List.getElem?_map] at hx
      obtain ⟨b, hb, rfl⟩ := Option.map_eq_some_iff.mp hx
      have hi := (List.getElem?_eq_some_iff.mp hb).1
      have hir : i < rows.length := by rw [← w317.len]; exact hi
      obtain ⟨y, hy⟩ : ∃ y, rows[i]? = some y := ⟨rows[i], List.getElem?_eq_getElem hir⟩
      obtain ⟨bt, g1, g2⟩ := (w318.same sm).at_ i b y hb hy
      refine Z.w_gname (σ' := [some (.ref a), some (.ref q1), some (.ref q2), some (.ref wb), some (.ref sg), some (.int (e : Int)), some (.ref b), some (.ref Lb), some (.ref D), none, some (.ref sg), none, none, none, none, none, none]) rfl ⟨rfl, ?_⟩
      walk_at "w"
      refine ⟨_, eD3, ?_, same_mut sm hD3, ?_⟩
      · rw [List.length_map, List.length_take]
        exact Nat.lt_of_le_of_lt (show _ ≤ 21 by rw [wo.len] at hir ⊢; omega) (by decide)
      · rw [upd_same, List.take_add_one, hy, List.map_append]
        rfl
    rintro H19 ⟨s19, eD3⟩
    rw [List.length_map, w317.len, List.take_length] at eD3
    refine ne_strsL (f := fun r : WRow => S r.name) (zs := rows) (s19 _ _ epf) eD3 (fun r hr => lay_lt (wo.nlt r hr)) ?_
    have li19 := li.same (s18.trans s19)
    have w319 := w318.same s19
    clear li s18 s19 epf eD3 w318 ew18 sg17 ew17 er17
    walk_at "w"
    have hp19 := li19.pool
    refine use_takeP hp19 (by decide) (by decide) fun st H20 px20 st0 st1 => ?_
    have li20 := li19.px hp19 fq1 px20
    have hp20 := px20.2
    clear li19 hp19 px20 w319
    repeat' (first | with_reducible refine seqIf (fun σ' H' => ∃ (v6 : Option V) (run : Nat), σ' = [some (.ref a), some (.ref q1), some (.ref q2), some (.ref wb), some (.ref sg), some (.int (e : Int)), v6, some (.ref Lb), some (.ref D), none, some (.ref sg), some (.int (st - 1000)), some (.int (run : Int)), none, none, none, none] ∧ run ≤ 40 ∧ LI P w T.C_Bank T.C_Signature T.P_ao H H' q1 ⟨wb, rb, tg, o1, t1, mo1, mn1, ms1⟩ ⟨wb, rb, tg, o2, t2, mo2, mn2, ms2⟩ Lb D ra tl ot rows 2) (fun Rk kk => ?_) ?_ | walk_at "w1")
    · refine use_takeP hp20 (by decide) (by decide) fun r6 H21 px21 r60 r61 => ?_
      have li21 := li20.px hp20 fq1 px21
      have hp21 := px21.2
      walk_at "w"
      by_cases h5 : r6 = 5
      · rw [if_pos (decide_eq_true h5)]
        walk_at "w"
        refine use_takeP hp21 (by decide) (by decide) fun rn H22 px22 rn0 rn1 => ?_
        obtain ⟨k, rfl⟩ := Int.eq_ofNat_of_zero_le rn0
        walk_at "w"
        exact kk _ _ ⟨_, k, rfl, by omega, li21.px hp21 fq1 px22⟩
      · rw [if_neg fun z => h5 (of_decide_eq_true z)]
        walk_at "w"
        exact kk _ _ ⟨_, 0, rfl, by omega, li21⟩
    clear li20 hp20
    rintro _ H23 ⟨w6, run, rfl, hrun, li23⟩
    walk_at "w"
    refine ⟨by omega, by omega, ?_⟩
    refine for_range (lo := 0) (n := _) (fun i σ' H' => ∃ v9, σ' = [some (.ref a), some (.ref q1), some (.ref q2), some (.ref wb), some (.ref sg), some (.int (e : Int)), w6, some (.ref Lb), some (.ref D), v9, some (.ref sg), some (.int (st - 1000)), some (.int (run : Int)), none, none, none, none] ∧ LI P w T.C_Bank T.C_Signature T.P_ao H H' q1 ⟨wb, rb, tg, o1, t1, mo1, mn1, ms1⟩ ⟨wb, rb, tg, o2, t2, mo2, mn2, ms2⟩ Lb D ra tl ot rows (2 + i)) ⟨_, rfl, li23⟩ ?_ ?_
    · rintro i σ' H' hi ⟨v9, rfl, lii⟩
      have hi40 : i < 40 := by omega
      obtain ⟨ux, wx, gx, sx, hpx, eb, em, hgx, back⟩ := lii.stepX fX fq1
      walk_at "w"
      rename_i l hl pm hpm
      have s2 : Same H' (upd (upd H' l (.lst [])) pm (.tup [vS WHOLE, .int (st - 1000 + (0 + (i : Int))), .ref l])) := same_of (same_of (Same.refl _) hl) hpm
      have k1 : upd (upd H' l (.lst [])) pm (.tup [vS WHOLE, .int (st - 1000 + (0 + (i : Int))), .ref l]) pm = some (.tup [vS WHOLE, .int (st - 1000 + (0 + (i : Int))), .ref l]) := upd_same
      have k2 : upd (upd H' l (.lst [])) pm (.tup [vS WHOLE, .int (st - 1000 + (0 + (i : Int))), .ref l]) l = some (.lst (([] : List Int).map V.int)) := upd_of hpm upd_same
      generalize upd (upd H' l (.lst [])) pm (.tup [vS WHOLE, .int (st - 1000 + (0 + (i : Int))), .ref l]) = H2 at s2 k1 k2 ⊢
      refine ⟨q1, pm, ⟨wb, rb, tg, o1, t1, mo1, mn1, ms1⟩, ra, tl, ot, rows, ux, wx, gx, rfl, hpx.same s2, sx.same s2, ⟨WHOLE, _, l, .num (st - 1000 + (0 + (i : Int))), [], WHOLE, k1, k2, by unfold ND.nk; rfl, ⟨(fun n hn => by cases hn), .whole _ (by omega)⟩, by decide⟩, hgx.1, by omega, fun H3 us3 ws3 g c3 s3 hp3 => ?_⟩
      have li3 := back H3 us3 ws3 g ((Ch.of s2).trans c3) s3 hp3
      walk_at "w"
      first | exact ⟨_, rfl, li3⟩ | exact li3
    rintro σ' H24 ⟨v9, rfl, li24⟩
    have li24 := li24.mono (show 2 + _ ≤ 42 by omega)
    walk_at "w"
    rename_i KL hKL
    have s25 : Same H24 (upd H24 KL (.lst [.int 0, .int 5, .int 9, .int 15, .int 1, .int 6])) := same_of (Same.refl _) hKL
    have eKL : upd H24 KL (.lst [.int 0, .int 5, .int 9, .int 15, .int 1, .int 6]) KL = some (.lst (([0, 5, 9, 15, 1, 6] : List Nat).map fun (k : Nat) => V.int (k : Int))) := upd_same
    generalize upd H24 KL (.lst [.int 0, .int 5, .int 9, .int 15, .int 1, .int 6]) = H25 at s25 eKL ⊢
    have li25 := li24.same s25
    have w325 : W3At H25 wb rb ra tl ot rows := li25.wd
    generalize hKC : ([0, 5, 9, 15, 1, 6] : List Nat) = KC at eKL
    have hKl : KC.length = 6 := by rw [← hKC]; rfl
    have hK21 : ∀ k ∈ KC, k < 21 := by rw [← hKC]; decide
    have hKc : ∀ k ∈ KC, ∃ r, rows[k]? = some r ∧ r.args = [] := by rw [← hKC]; exact wo.c5
    have hra : ∀ k ∈ KC, ra[k]? = some (ra.getD k 0) := fun k hk => by
      have hl : k < ra.length := by rw [w325.len, wo.len]; exact hK21 k hk
      rw [List.getD_eq_getElem?_getD, List.getElem?_eq_getElem hl]
      rfl
    intro D5 hD5
    refine lc_list (a := KL) (xs := KC.map fun (k : Nat) => V.int (k : Int)) (fun i H' => Same H25 H' ∧ H' D5 = some (.lst ((KC.take i).map fun k => V.ref (ra.getD k 0)))) ⟨same_of (Same.refl _) hD5, upd_same⟩ (fun i H' _ q => .inl (.inl (q.1 _ _ eKL))) ?_ ?_
    · rintro i x H' hx ⟨sm, eD5⟩
      rw [List.getElem?_map] at hx
      obtain ⟨k, hk, rfl⟩ := Option.map_eq_some_iff.mp hx
      have hkm := List.mem_of_getElem? hk
      have w3i := w325.same sm
      have ewi := w3i.w
      have hatk : atI (ra.map V.ref) (k : Int) = some (.ref (ra.getD k 0)) := atI_nat (by rw [List.getElem?_map, hra k hkm]; rfl)
      refine Z.w_gname (σ' := [some (.ref a), some (.ref q1), some (.ref q2), some (.ref wb), some (.ref sg), some (.int (e : Int)), w6, some (.ref Lb), some (.ref D), some (.int (k : Int)), some (.ref sg), some (.int (st - 1000)), some (.int (run : Int)), none, none, none, none]) rfl ⟨rfl, ?_⟩
      walk_at "w"
      refine Z.w_ixH w3i.r hatk ?_
      refine ⟨_, eD5, ?_, same_mut sm hD5, ?_⟩
      · rw [List.length_map, List.length_take]
        exact Nat.lt_of_le_of_lt (show _ ≤ 6 by omega) (by decide)
      · rw [upd_same, List.take_add_one, hk, List.map_append]
        rfl
    rintro H26 ⟨s26, eD5⟩
    rw [List.length_map, List.take_length] at eD5
    have li26 := li25.same s26
    have hp26 := li26.pool
    walk_at "w"
    refine use_takeP hp26 (by decide) (by decide) fun sk H27 px27 sk0 sk1 => ?_
    obtain ⟨m, rfl⟩ := Int.eq_ofNat_of_zero_le sk0
    have li27 := li26.px hp26 fq1 px27
    have nDq : D5 ≠ q1 := refs_pool (ws := KC.map fun k => ra.getD k 0) hp26 (by rw [List.map_map]; exact eD5)
    have eD57 := px27.3 _ _ nDq eD5
    clear li24 li25 li26 hp26 w325 s25 s26 eKL eD5 px27 li23
    walk_at "w"
    refine w_slTo (.inl (.inl eD57)) (by rw [List.length_map, hKl]; omega) fun SL3 hSL3 => ?_
    have s28 : Same H27 (upd H27 SL3 (.lst ((KC.map fun k => V.ref (ra.getD k 0)).take m))) := same_of (Same.refl _) hSL3
    have eSL3 : upd H27 SL3 (.lst ((KC.map fun k => V.ref (ra.getD k 0)).take m)) SL3 = some (.lst ((KC.map fun k => V.ref (ra.getD k 0)).take m)) := upd_same
    have kSL : SL3 ∉ q1 :: T.P_ao :: LX.mut ⟨wb, rb, tg, o1, t1, mo1, mn1, ms1⟩ := fun z => by
      obtain ⟨ux, wx, gx, sx, hpx, _⟩ := li27.stepX fX fq1
      obtain ⟨o, ho⟩ := sx.live hpx _ z
      rw [ho] at hSL3
      cases hSL3
    generalize upd H27 SL3 (.lst ((KC.map fun k => V.ref (ra.getD k 0)).take m)) = H28 at s28 eSL3 ⊢
    have li28 := li27.same s28
    clear li27 s28 eD57
    have hml : ((KC.map fun k => V.ref (ra.getD k 0)).take m).length ≤ 6 := by rw [List.length_take, List.length_map]; omega
    refine ⟨SL3, rfl, ⟨_, .inl (.inl eSL3)⟩, ?_⟩
    refine for_list (a := SL3) (xs := (KC.map fun k => V.ref (ra.getD k 0)).take m) (fun i σ' H' => ∃ v6, σ' = [some (.ref a), some (.ref q1), some (.ref q2), some (.ref wb), some (.ref sg), some (.int (e : Int)), v6, some (.ref Lb), some (.ref D), v9, some (.ref sg), some (.int (st - 1000)), some (.int (run : Int)), none, none, none, none] ∧ H' SL3 = some (.lst ((KC.map fun k => V.ref (ra.getD k 0)).take m)) ∧ LI P w T.C_Bank T.C_Signature T.P_ao H H' q1 ⟨wb, rb, tg, o1, t1, mo1, mn1, ms1⟩ ⟨wb, rb, tg, o2, t2, mo2, mn2, ms2⟩ Lb D ra tl ot rows (42 + i)) ⟨_, rfl, eSL3, li28⟩ (fun i σ' H' _ ⟨_, _, c, _⟩ => .inl (.inl c)) ?_ ?_
    · rintro i x σ' H' hx ⟨v6, rfl, eS, lii⟩
      have hi6 : i < 6 := by have := (List.getElem?_eq_some_iff.mp hx).1; omega
      have him : i < m := by
        have := (List.getElem?_eq_some_iff.mp hx).1
        rw [List.length_take] at this
        omega
      rw [List.getElem?_take, if_pos him, List.getElem?_map] at hx
      obtain ⟨k, hk, rfl⟩ := Option.map_eq_some_iff.mp hx
      have hkm := List.mem_of_getElem? hk
      obtain ⟨row, hrow, hargs⟩ := hKc k hkm
      have hrm := List.mem_of_getElem? hrow
      have w3i : W3At H' wb rb ra tl ot rows := lii.wd
      obtain ⟨bt, g1, g2⟩ := w3i.at_ k _ row (hra k hkm) hrow
      obtain ⟨ux, wx, gx, sx, hpx, eb, em, hgx, back⟩ := lii.stepX fX fq1
      generalize ra.getD k 0 = rk at g1 ⊢
      walk_at "w"
      rename_i l hl pm hpm
      have s2 : Same H' (upd (upd H' l (.lst [])) pm (.tup [vS CALLo, vS row.name, .ref l])) := same_of (same_of (Same.refl _) hl) hpm
      have k1 : upd (upd H' l (.lst [])) pm (.tup [vS CALLo, vS row.name, .ref l]) pm = some (.tup [vS CALLo, vS row.name, .ref l]) := upd_same
      have k2 : upd (upd H' l (.lst [])) pm (.tup [vS CALLo, vS row.name, .ref l]) l = some (.lst (([] : List Int).map V.int)) := upd_of hpm upd_same
      generalize upd (upd H' l (.lst [])) pm (.tup [vS CALLo, vS row.name, .ref l]) = H2 at s2 k1 k2 ⊢
      have fitc : fitS rows CALLo (.text (S row.name)) [] row.res := by
        have q := fitS.call (rows := rows) row hrm
        rw [hargs] at q
        exact q
      refine ⟨q1, pm, ⟨wb, rb, tg, o1, t1, mo1, mn1, ms1⟩, ra, tl, ot, rows, ux, wx, gx, rfl, hpx.same s2, sx.same s2, ⟨CALLo, _, l, .text (S row.name), [], row.res, k1, k2, by unfold ND.nk; rfl, ⟨(fun n hn => by cases hn), fitc⟩, by decide⟩, hgx.1, by omega, fun H3 us3 ws3 g c3 s3 hp3 => ?_⟩
      have li3 := back H3 us3 ws3 g ((Ch.of s2).trans c3) s3 hp3
      have eS3 := c3 _ _ kSL (s2 _ _ eS)
      walk_at "w"
      first | exact ⟨_, rfl, eS3, li3⟩ | exact ⟨eS3, li3⟩
    rintro σ' H29 ⟨v6'', rfl, _, li29⟩
    have li29 := li29.mono (show 42 + _ ≤ 48 by omega)
    clear li28 eSL3 kSL hKc hra hK21 hKl hml hKC
    have hp29 := li29.pool
    walk_at "w"
    refine use_takeP hp29 (by decide) (by decide) fun rt H30 px30 rt0 rt1 => ?_
    have li30 := li29.px hp29 fq1 px30
    clear li29 hp29 px30
    walk_at "w"
    refine ⟨by omega, by omega, ?_⟩
    refine for_range (lo := 0) (n := _) (fun i σ' H' => ∃ v9 v13 v14 v15 v16, σ' = [some (.ref a), some (.ref q1), some (.ref q2), some (.ref wb), some (.ref sg), some (.int (e : Int)), v6'', some (.ref Lb), some (.ref D), v9, some (.ref sg), some (.int (st - 1000)), some (.int (run : Int)), v13, v14, v15, v16] ∧ LI P w T.C_Bank T.C_Signature T.P_ao H H' q1 ⟨wb, rb, tg, o1, t1, mo1, mn1, ms1⟩ ⟨wb, rb, tg, o2, t2, mo2, mn2, ms2⟩ Lb D ra tl ot rows (48 + i)) ⟨_, _, _, _, _, rfl, li30⟩ ?_ ?_
    · rintro i σ' H' hi ⟨v9, v13, v14, v15, v16, rfl, lii⟩
      have hi22 : i < 22 := by omega
      have hSi : SqL K H' a (ns.map V.int) := sq_base hS ⟨_, hPt⟩ lii.base
      walk_at "w"
      refine ⟨a, ns, 0 + (i : Int) + 2, rfl, hSi, by omega, by omega, by omega, fun q3 o3 fq3 hpo3 => ?_⟩
      have fq30 : H q3 = none := fresh_b lii.base lii.tb fq3
      have hp3 : PoolAt (upd H' q3 o3) q3 := ⟨o3, upd_same, hpo3⟩
      have li1 := lii.same (same_of (Same.refl _) fq3 (o := o3))
      generalize upd H' q3 o3 = H1 at hp3 li1 ⊢
      clear lii hSi
      walk_at "w"
      refine use_takeP hp3 (by decide) (by decide) fun rw_ H2 px2 rw0 rw1 => ?_
      have li2 := li1.px hp3 fq30 px2
      have hp32 := px2.2
      clear li1 hp3 px2
      have hwh : rw_ / 3 = 0 ∨ rw_ / 3 = 1 := by omega
      obtain ⟨Z, Z', uz, wz, uz', wz', gz, gz', l2, hpz, bz, eb, em, gz1, gz2, hat1, hat2, hat3, hat4, hz, fz, back⟩ := li2.pick hwh fX fY eXY fq1
      have hz : Z.wb = wb := hz
      have emo := l2.x.mo.mo_
      walk_at "w"
      have w3z : W3At H2 wb Z.rb ra tl ot rows := by rw [← hz]; exact l2.x.wd
      refine ⟨q3, wb, Z.rb, Z.ms, ra, tl, ot, rows, gz, rfl, hp32, w3z, wo, l2.x.mo.ms_, by omega, fun H3 pm px3 mk3 => ?_⟩
      have hp33 := px3.2
      repeat' (first | with_reducible refine seqIf (fun σ' H4 => ∃ pm, σ' = [some (.ref a), some (.ref q1), some (.ref q2), some (.ref wb), some (.ref sg), some (.int (e : Int)), v6'', some (.ref Lb), some (.ref D), some (.int (0 + (i : Int))), some (.ref sg), some (.int (st - 1000)), some (.int (run : Int)), some (.ref q3), some (.int (rw_ / 3)), some (.ref Z.mo), some (.ref pm)] ∧ PX q3 H2 H4 ∧ MkRow rows gz H4 pm) (fun Rk kk => ?_) ?_ | walk_at "w1")
      · refine use_takeP hp33 (by decide) (by decide) fun r4 H4 px4 r40 r41 => ?_
        have px24 := px3.trans px4
        have mk4 : MkRow rows gz H4 pm := by
          obtain ⟨op, val, pl, kv, ns', so, k1, k2, k3, k4⟩ := mk3
          have npl : pl ≠ q3 := ne_pool hp33 k2 fun c k b s z => by
            rcases ns' with _ | ⟨n1, _ | ⟨n2, _ | ⟨n3, ns'⟩⟩⟩
            · cases z
            · cases z
            · cases z
            · simp at z
          exact ⟨op, val, pl, kv, ns', so, px4.3 _ _ (tup_pool hp33 k1) k1, px4.3 _ _ npl k2, ND.nk_keep (fun b ys e => px4.3 _ _ (tup_pool hp33 e) e) _ _ k3, k4⟩
        have sx4 := l2.x.px hp32 px24
        have emo4 := sx4.mo.mo_
        have hp34 := px24.2
        walk_at "w"
        by_cases h3 : r4 = 3
        · rw [if_pos (decide_eq_true h3)]
          walk_at "w"
          refine ⟨q3, Z.mn, wz, rows, gz, rfl, hp34, sx4.mo.mn_, sx4.mo.len, sx4.mo.nk, gz1.1, by omega, sx4.gd, fun H5 p5 px5 mk5 => ?_⟩
          walk_at "w"
          exact kk _ _ ⟨p5, rfl, px24.trans px5, mk5⟩
        · rw [if_neg fun z => h3 (of_decide_eq_true z)]
          walk_at "w"
          exact kk _ _ ⟨pm, rfl, px24, mk4⟩
      rintro _ H6 ⟨pm6, rfl, px6, mk6⟩
      clear px3 mk3 hp33
      have l6 := l2.px hp32 px6
      have hp36 := px6.2
      have nq6 := l2.nq hp32
      have eb6 := px6.3 _ _ nq6.1 eb
      have em6 := px6.3 _ _ nq6.2 em
      walk_at "w"
      refine ⟨q3, pm6, Z, ra, tl, ot, rows, uz, wz, gz, by rw [hz], hp36, l6.x, mk6, gz1.1, by omega, fun H7 us7 ws7 g c7 s7 hp7 => ?_⟩
      obtain ⟨li7, uz7, wz7, l7⟩ := back H7 q3 us7 ws7 g hp32 fq30 ((Ch.px px6 (by simp)).trans c7) s7 hp7
      obtain ⟨_, _, _, _, _, _, _, _, _, eb7, em7, _, _⟩ := id li7
      have emo7 := l7.y.mo.mo_
      have emn7 := l7.y.mo.mn_
      have el7 : ((wz'.map V.ref).length : Int) = ((gz'.map GRow.b).length : Int) := by rw [List.length_map, List.length_map, l7.y.mo.len]
      walk_at "w"
      refine w_bankLen l7.y.bk (by rw [List.length_map]; omega) ?_
      walk_at "w"
      first | exact ⟨_, _, _, _, _, rfl, li7⟩ | exact li7 | trace_state
    rintro σ' H31 ⟨v9', v13, v14, v15, v16, rfl, li31⟩
    have li31 := li31.mono (show 48 + _ ≤ 71 by omega)
    obtain ⟨ux, wx, uy, wy, gx, gy, l8, hp8, b8, eb8, em8, gx8, gy8⟩ := li31
    walk_at "w"
    refine ⟨q1, ⟨wb, rb, tg, o1, t1, mo1, mn1, ms1⟩, ra, tl, ot, rows, ux, wx, gx, rfl, hp8, l8.x, gx8.1, by omega, fun H32 px32 => ?_⟩
    have l9 := l8.px hp8 px32
    have nq8 := l8.nq hp8
    have eb9 := px32.3 _ _ nq8.1 eb8
    have em9 := px32.3 _ _ nq8.2 em8
    walk_at "w"
    refine ⟨q1, ⟨wb, rb, tg, o2, t2, mo2, mn2, ms2⟩, ra, tl, ot, rows, uy, wy, gy, rfl, px32.2, l9.y, gy8.1, by omega, fun H33 px33 => ?_⟩
    exact h H33
end
end L

namespace X0
end X0
namespace L
open PySem PySem.Spec PyProof.Rows L2 Z X0
theorem all_mk {l : PySem.W.OpenLaw} {w : World} {K : PySem.W.Frag} {h : Heap} {mg : Str → Option Value} {fa : Addr} (X : K.In h) (G : h.Ns mainGlobals mg) (hfa : mg "law" = some (.ref fa))
    {f_parts_kept : Addr} {od_parts_kept an_parts_kept : Option Addr} {sl_parts_kept : Array (Option Value)} {oc_parts_kept kV_parts_kept dc_parts_kept pm_parts_kept cd_parts_kept ct_parts_kept  : Value}
    {f_sort_made : Addr} {od_sort_made an_sort_made : Option Addr} {sl_sort_made : Array (Option Value)} {oc_sort_made kV_sort_made dc_sort_made pm_sort_made cd_sort_made ct_sort_made  : Value}
    {f_sum_fits : Addr} {od_sum_fits an_sum_fits : Option Addr} {sl_sum_fits : Array (Option Value)} {oc_sum_fits kV_sum_fits dc_sum_fits pm_sum_fits cd_sum_fits ct_sum_fits  : Value}
    {f_connective_fits : Addr} {od_connective_fits an_connective_fits : Option Addr} {sl_connective_fits : Array (Option Value)} {oc_connective_fits kV_connective_fits dc_connective_fits pm_connective_fits cd_connective_fits ct_connective_fits  : Value}
    {f_comparison_fits : Addr} {od_comparison_fits an_comparison_fits : Option Addr} {sl_comparison_fits : Array (Option Value)} {oc_comparison_fits kV_comparison_fits dc_comparison_fits pm_comparison_fits cd_comparison_fits ct_comparison_fits  : Value}
    {f_all_of : Addr} {od_all_of an_all_of : Option Addr} {sl_all_of : Array (Option Value)} {oc_all_of kV_all_of dc_all_of pm_all_of cd_all_of ct_all_of  : Value}
    {f_is_name : Addr} {od_is_name an_is_name : Option Addr} {sl_is_name : Array (Option Value)} {oc_is_name kV_is_name dc_is_name pm_is_name cd_is_name ct_is_name  : Value}
    {f_pool : Addr} {od_pool an_pool : Option Addr} {sl_pool : Array (Option Value)} {oc_pool kV_pool dc_pool pm_pool cd_pool ct_pool  : Value}
    {f_take : Addr} {od_take an_take : Option Addr} {sl_take : Array (Option Value)} {oc_take kV_take dc_take pm_take cd_take ct_take  : Value}
    {f_word : Addr} {od_word an_word : Option Addr} {sl_word : Array (Option Value)} {oc_word kV_word dc_word pm_word cd_word ct_word  : Value}
    {f_world : Addr} {od_world an_world : Option Addr} {sl_world : Array (Option Value)} {oc_world kV_world dc_world pm_world cd_world ct_world  : Value}
    {f_number : Addr} {od_number an_number : Option Addr} {sl_number : Array (Option Value)} {oc_number kV_number dc_number pm_number cd_number ct_number  : Value}
    {f_lowest : Addr} {od_lowest an_lowest : Option Addr} {sl_lowest : Array (Option Value)} {oc_lowest kV_lowest dc_lowest pm_lowest cd_lowest ct_lowest  : Value}
    {f_wide : Addr} {od_wide an_wide : Option Addr} {sl_wide : Array (Option Value)} {oc_wide kV_wide dc_wide pm_wide cd_wide ct_wide  : Value}
    {f_large : Addr} {od_large an_large : Option Addr} {sl_large : Array (Option Value)} {oc_large kV_large dc_large pm_large cd_large ct_large  : Value}
    {f_kind : Addr} {od_kind an_kind : Option Addr} {sl_kind : Array (Option Value)} {oc_kind kV_kind dc_kind pm_kind cd_kind ct_kind  : Value}
    {f_some : Addr} {od_some an_some : Option Addr} {sl_some : Array (Option Value)} {oc_some kV_some dc_some pm_some cd_some ct_some  : Value}
    {f_making : Addr} {od_making an_making : Option Addr} {sl_making : Array (Option Value)} {oc_making kV_making dc_making pm_making cd_making ct_making  : Value}
    {f_again : Addr} {od_again an_again : Option Addr} {sl_again : Array (Option Value)} {oc_again kV_again dc_again pm_again cd_again ct_again  : Value}
    {f_node : Addr} {od_node an_node : Option Addr} {sl_node : Array (Option Value)} {oc_node kV_node dc_node pm_node cd_node ct_node  : Value}
    {f_node_sort : Addr} {od_node_sort an_node_sort : Option Addr} {sl_node_sort : Array (Option Value)} {oc_node_sort kV_node_sort dc_node_sort pm_node_sort cd_node_sort ct_node_sort  : Value}
    {f_whole : Addr} {od_whole an_whole : Option Addr} {sl_whole : Array (Option Value)} {oc_whole kV_whole dc_whole pm_whole cd_whole ct_whole  : Value}
    {f_alike : Addr} {od_alike an_alike : Option Addr} {sl_alike : Array (Option Value)} {oc_alike kV_alike dc_alike pm_alike cd_alike ct_alike  : Value}
    {f_asked : Addr} {od_asked an_asked : Option Addr} {sl_asked : Array (Option Value)} {oc_asked kV_asked dc_asked pm_asked cd_asked ct_asked  : Value}
    {f_refused : Addr} {od_refused an_refused : Option Addr} {sl_refused : Array (Option Value)} {oc_refused kV_refused dc_refused pm_refused cd_refused ct_refused  : Value}
    {f_refused_by_base : Addr} {od_refused_by_base an_refused_by_base : Option Addr} {sl_refused_by_base : Array (Option Value)} {oc_refused_by_base kV_refused_by_base dc_refused_by_base pm_refused_by_base cd_refused_by_base ct_refused_by_base  : Value}
    {f_at : Addr} {od_at an_at : Option Addr} {sl_at : Array (Option Value)} {oc_at kV_at dc_at pm_at cd_at ct_at  : Value}
    {f_step : Addr} {od_step an_step : Option Addr} {sl_step : Array (Option Value)} {oc_step kV_step dc_step pm_step cd_step ct_step  : Value}
    {f_end : Addr} {od_end an_end : Option Addr} {sl_end : Array (Option Value)} {oc_end kV_end dc_end pm_end cd_end ct_end  : Value}
    {f_law : Addr} {od_law an_law : Option Addr} {sl_law : Array (Option Value)} {oc_law kV_law dc_law pm_law cd_law ct_law  : Value}
    {C_BadNode : Addr}
    {C_PaperError : Addr}
    {C_BadModel : Addr}
    {C_BadName : Addr}
    {C_BadLiteral : Addr}
    {C_BadRatio : Addr}
    {C_BadSort : Addr}
    {C_BadText : Addr}
    {C_NameTaken : Addr}
    {C_NoAnswer : Addr}
    {C_NoLevel : Addr}
    {C_UnknownName : Addr}
    {A_OPS : Addr} {dd_OPS : Option Addr} {nn_OPS : Nat} {sl_OPS : Array (Option Value)} {t_OPS_0 t_OPS_1 t_OPS_2 t_OPS_3 t_OPS_4 t_OPS_5 t_OPS_6 t_OPS_7 t_OPS_8 t_OPS_9 t_OPS_10 t_OPS_11 t_OPS_12 t_OPS_13 t_OPS_14 t_OPS_15 t_OPS_16 : Tok}
    {A_RESERVED : Addr} {dd_RESERVED : Option Addr} {nn_RESERVED : Nat} {sl_RESERVED : Array (Option Value)} {t_RESERVED_0 t_RESERVED_1 t_RESERVED_2 t_RESERVED_3 t_RESERVED_4 t_RESERVED_5 t_RESERVED_6 t_RESERVED_7 t_RESERVED_8 t_RESERVED_9 t_RESERVED_10 t_RESERVED_11 : Tok}
    {A_BASE_SORTS : Addr} {dd_BASE_SORTS : Option Addr} {nn_BASE_SORTS : Nat} {sl_BASE_SORTS : Array (Option Value)} {t_BASE_SORTS_0 t_BASE_SORTS_1 t_BASE_SORTS_2 : Tok}
    {A_CONNECTIVES : Addr} {dd_CONNECTIVES : Option Addr} {nn_CONNECTIVES : Nat} {sl_CONNECTIVES : Array (Option Value)} {t_CONNECTIVES_0 t_CONNECTIVES_1 t_CONNECTIVES_2 t_CONNECTIVES_3 : Tok}
    {A_LEAF_SORTS : Addr} {t_LEAF_SORTS_0 t_LEAF_SORTS_1 t_LEAF_SORTS_2 t_LEAF_SORTS_3 : Tok}
    {A_SUMS : Addr} {t_SUMS_0 t_SUMS_1 t_SUMS_2 : Tok}
    {ke_LEAF_SORTS : Array DictEntry} {kn_LEAF_SORTS : Nat}
    {ke_SUMS : Array DictEntry} {kn_SUMS : Nat}
    {nm_BadNode q_BadNode : Str} {N_BadNode : Addr} {bs_BadNode : List Value} {sn_BadNode : List Str} {sub_BadNode : List Value} {ab_BadNode : Bool} {col_BadNode : Option Bool} {dd_BadNode : Option Addr} {m0_BadNode m1_BadNode m2_BadNode m3_BadNode m5_BadNode : Option Value}
    {c_ao P_ao : Addr}
    {C_Signature : Addr}
    {C_Bank : Addr}
    {f_BadNode_init : Addr} {od_BadNode_init an_BadNode_init : Option Addr} {sl_BadNode_init : Array (Option Value)} {oc_BadNode_init kV_BadNode_init dc_BadNode_init pm_BadNode_init cd_BadNode_init ct_BadNode_init : Value}
    {f_Bank_init : Addr} {od_Bank_init an_Bank_init : Option Addr} {sl_Bank_init : Array (Option Value)} {oc_Bank_init kV_Bank_init dc_Bank_init pm_Bank_init cd_Bank_init ct_Bank_init : Value}
    {f_Bank_make : Addr} {od_Bank_make an_Bank_make : Option Addr} {sl_Bank_make : Array (Option Value)} {oc_Bank_make kV_Bank_make dc_Bank_make pm_Bank_make cd_Bank_make ct_Bank_make : Value}
    {f_Bank_seek : Addr} {od_Bank_seek an_Bank_seek : Option Addr} {sl_Bank_seek : Array (Option Value)} {oc_Bank_seek kV_Bank_seek dc_Bank_seek pm_Bank_seek cd_Bank_seek ct_Bank_seek : Value}
    {f_Bank_node : Addr} {od_Bank_node an_Bank_node : Option Addr} {sl_Bank_node : Array (Option Value)} {oc_Bank_node kV_Bank_node dc_Bank_node pm_Bank_node cd_Bank_node ct_Bank_node : Value}
    {f_Bank_sort_of : Addr} {od_Bank_sort_of an_Bank_sort_of : Option Addr} {sl_Bank_sort_of : Array (Option Value)} {oc_Bank_sort_of kV_Bank_sort_of dc_Bank_sort_of pm_Bank_sort_of cd_Bank_sort_of ct_Bank_sort_of : Value}
    {f_Bank_has : Addr} {od_Bank_has an_Bank_has : Option Addr} {sl_Bank_has : Array (Option Value)} {oc_Bank_has kV_Bank_has dc_Bank_has pm_Bank_has cd_Bank_has ct_Bank_has : Value}
    {f_Bank_len : Addr} {od_Bank_len an_Bank_len : Option Addr} {sl_Bank_len : Array (Option Value)} {oc_Bank_len kV_Bank_len dc_Bank_len pm_Bank_len cd_Bank_len ct_Bank_len : Value}
    {f_Bank_iter : Addr} {od_Bank_iter an_Bank_iter : Option Addr} {sl_Bank_iter : Array (Option Value)} {oc_Bank_iter kV_Bank_iter dc_Bank_iter pm_Bank_iter cd_Bank_iter ct_Bank_iter : Value}
    {f_Signature_init : Addr} {od_Signature_init an_Signature_init : Option Addr} {sl_Signature_init : Array (Option Value)} {oc_Signature_init kV_Signature_init dc_Signature_init pm_Signature_init cd_Signature_init ct_Signature_init : Value}
    {f_Signature_declare_sort : Addr} {od_Signature_declare_sort an_Signature_declare_sort : Option Addr} {sl_Signature_declare_sort : Array (Option Value)} {oc_Signature_declare_sort kV_Signature_declare_sort dc_Signature_declare_sort pm_Signature_declare_sort cd_Signature_declare_sort ct_Signature_declare_sort : Value}
    {f_Signature_declare_function : Addr} {od_Signature_declare_function an_Signature_declare_function : Option Addr} {sl_Signature_declare_function : Array (Option Value)} {oc_Signature_declare_function kV_Signature_declare_function dc_Signature_declare_function pm_Signature_declare_function cd_Signature_declare_function ct_Signature_declare_function : Value}
    {f_Signature_functions : Addr} {od_Signature_functions an_Signature_functions : Option Addr} {sl_Signature_functions : Array (Option Value)} {oc_Signature_functions kV_Signature_functions dc_Signature_functions pm_Signature_functions cd_Signature_functions ct_Signature_functions : Value}
    {f_Signature_knows_sort : Addr} {od_Signature_knows_sort an_Signature_knows_sort : Option Addr} {sl_Signature_knows_sort : Array (Option Value)} {oc_Signature_knows_sort kV_Signature_knows_sort dc_Signature_knows_sort pm_Signature_knows_sort cd_Signature_knows_sort ct_Signature_knows_sort : Value}
    {f_Signature_knows_function : Addr} {od_Signature_knows_function an_Signature_knows_function : Option Addr} {sl_Signature_knows_function : Array (Option Value)} {oc_Signature_knows_function kV_Signature_knows_function dc_Signature_knows_function pm_Signature_knows_function cd_Signature_knows_function ct_Signature_knows_function : Value}
    {f_Signature_arguments_of : Addr} {od_Signature_arguments_of an_Signature_arguments_of : Option Addr} {sl_Signature_arguments_of : Array (Option Value)} {oc_Signature_arguments_of kV_Signature_arguments_of dc_Signature_arguments_of pm_Signature_arguments_of cd_Signature_arguments_of ct_Signature_arguments_of : Value}
    {f_Signature_result_of : Addr} {od_Signature_result_of an_Signature_result_of : Option Addr} {sl_Signature_result_of : Array (Option Value)} {oc_Signature_result_of kV_Signature_result_of dc_Signature_result_of pm_Signature_result_of cd_Signature_result_of ct_Signature_result_of : Value}
    {f_Signature_function : Addr} {od_Signature_function an_Signature_function : Option Addr} {sl_Signature_function : Array (Option Value)} {oc_Signature_function kV_Signature_function dc_Signature_function pm_Signature_function cd_Signature_function ct_Signature_function : Value}
    {f_Signature_refuse_name : Addr} {od_Signature_refuse_name an_Signature_refuse_name : Option Addr} {sl_Signature_refuse_name : Array (Option Value)} {oc_Signature_refuse_name kV_Signature_refuse_name dc_Signature_refuse_name pm_Signature_refuse_name cd_Signature_refuse_name ct_Signature_refuse_name : Value}
    (a_parts_kept : PySem.W.nsIn K mainGlobals "_parts_kept" = some (some (.ref f_parts_kept)))
    (l_parts_kept : K.lookup f_parts_kept = some ⟨oc_parts_kept, od_parts_kept, .func (PySem.W.fnOf "_parts_kept" "_parts_kept" (defArgs s_parts_kept) (defBody s_parts_kept) (defScope s_parts_kept) .none kV_parts_kept dc_parts_kept pm_parts_kept an_parts_kept cd_parts_kept ct_parts_kept), sl_parts_kept⟩)
    (c_parts_kept : PySem.W.codeIn K cd_parts_kept "_parts_kept" = true)
    (k_parts_kept : PySem.W.keepIn K (.ref f_parts_kept) = true)
    (a_sort_made : PySem.W.nsIn K mainGlobals "_sort_made" = some (some (.ref f_sort_made)))
    (l_sort_made : K.lookup f_sort_made = some ⟨oc_sort_made, od_sort_made, .func (PySem.W.fnOf "_sort_made" "_sort_made" (defArgs s_sort_made) (defBody s_sort_made) (defScope s_sort_made) .none kV_sort_made dc_sort_made pm_sort_made an_sort_made cd_sort_made ct_sort_made), sl_sort_made⟩)
    (c_sort_made : PySem.W.codeIn K cd_sort_made "_sort_made" = true)
    (k_sort_made : PySem.W.keepIn K (.ref f_sort_made) = true)
    (a_sum_fits : PySem.W.nsIn K mainGlobals "_sum_fits" = some (some (.ref f_sum_fits)))
    (l_sum_fits : K.lookup f_sum_fits = some ⟨oc_sum_fits, od_sum_fits, .func (PySem.W.fnOf "_sum_fits" "_sum_fits" (defArgs s_sum_fits) (defBody s_sum_fits) (defScope s_sum_fits) .none kV_sum_fits dc_sum_fits pm_sum_fits an_sum_fits cd_sum_fits ct_sum_fits), sl_sum_fits⟩)
    (c_sum_fits : PySem.W.codeIn K cd_sum_fits "_sum_fits" = true)
    (k_sum_fits : PySem.W.keepIn K (.ref f_sum_fits) = true)
    (a_connective_fits : PySem.W.nsIn K mainGlobals "_connective_fits" = some (some (.ref f_connective_fits)))
    (l_connective_fits : K.lookup f_connective_fits = some ⟨oc_connective_fits, od_connective_fits, .func (PySem.W.fnOf "_connective_fits" "_connective_fits" (defArgs s_connective_fits) (defBody s_connective_fits) (defScope s_connective_fits) .none kV_connective_fits dc_connective_fits pm_connective_fits an_connective_fits cd_connective_fits ct_connective_fits), sl_connective_fits⟩)
    (c_connective_fits : PySem.W.codeIn K cd_connective_fits "_connective_fits" = true)
    (k_connective_fits : PySem.W.keepIn K (.ref f_connective_fits) = true)
    (a_comparison_fits : PySem.W.nsIn K mainGlobals "_comparison_fits" = some (some (.ref f_comparison_fits)))
    (l_comparison_fits : K.lookup f_comparison_fits = some ⟨oc_comparison_fits, od_comparison_fits, .func (PySem.W.fnOf "_comparison_fits" "_comparison_fits" (defArgs s_comparison_fits) (defBody s_comparison_fits) (defScope s_comparison_fits) .none kV_comparison_fits dc_comparison_fits pm_comparison_fits an_comparison_fits cd_comparison_fits ct_comparison_fits), sl_comparison_fits⟩)
    (c_comparison_fits : PySem.W.codeIn K cd_comparison_fits "_comparison_fits" = true)
    (k_comparison_fits : PySem.W.keepIn K (.ref f_comparison_fits) = true)
    (a_all_of : PySem.W.nsIn K mainGlobals "_all_of" = some (some (.ref f_all_of)))
    (l_all_of : K.lookup f_all_of = some ⟨oc_all_of, od_all_of, .func (PySem.W.fnOf "_all_of" "_all_of" (defArgs s_all_of) (defBody s_all_of) (defScope s_all_of) .none kV_all_of dc_all_of pm_all_of an_all_of cd_all_of ct_all_of), sl_all_of⟩)
    (c_all_of : PySem.W.codeIn K cd_all_of "_all_of" = true)
    (k_all_of : PySem.W.keepIn K (.ref f_all_of) = true)
    (a_is_name : PySem.W.nsIn K mainGlobals "is_name" = some (some (.ref f_is_name)))
    (l_is_name : K.lookup f_is_name = some ⟨oc_is_name, od_is_name, .func (PySem.W.fnOf "is_name" "is_name" (defArgs s_is_name) (defBody s_is_name) (defScope s_is_name) .none kV_is_name dc_is_name pm_is_name an_is_name cd_is_name ct_is_name), sl_is_name⟩)
    (c_is_name : PySem.W.codeIn K cd_is_name "is_name" = true)
    (k_is_name : PySem.W.keepIn K (.ref f_is_name) = true)
    (a_pool : PySem.W.nsIn K mainGlobals "_law_pool" = some (some (.ref f_pool)))
    (l_pool : K.lookup f_pool = some ⟨oc_pool, od_pool, .func (PySem.W.fnOf "_law_pool" "_law_pool" (defArgs s_pool) (defBody s_pool) (defScope s_pool) .none kV_pool dc_pool pm_pool an_pool cd_pool ct_pool), sl_pool⟩)
    (c_pool : PySem.W.codeIn K cd_pool "_law_pool" = true)
    (k_pool : PySem.W.keepIn K (.ref f_pool) = true)
    (a_take : PySem.W.nsIn K mainGlobals "_law_take" = some (some (.ref f_take)))
    (l_take : K.lookup f_take = some ⟨oc_take, od_take, .func (PySem.W.fnOf "_law_take" "_law_take" (defArgs s_take) (defBody s_take) (defScope s_take) .none kV_take dc_take pm_take an_take cd_take ct_take), sl_take⟩)
    (c_take : PySem.W.codeIn K cd_take "_law_take" = true)
    (k_take : PySem.W.keepIn K (.ref f_take) = true)
    (a_word : PySem.W.nsIn K mainGlobals "_law_word" = some (some (.ref f_word)))
    (l_word : K.lookup f_word = some ⟨oc_word, od_word, .func (PySem.W.fnOf "_law_word" "_law_word" (defArgs s_word) (defBody s_word) (defScope s_word) .none kV_word dc_word pm_word an_word cd_word ct_word), sl_word⟩)
    (c_word : PySem.W.codeIn K cd_word "_law_word" = true)
    (k_word : PySem.W.keepIn K (.ref f_word) = true)
    (a_world : PySem.W.nsIn K mainGlobals "_law_world" = some (some (.ref f_world)))
    (l_world : K.lookup f_world = some ⟨oc_world, od_world, .func (PySem.W.fnOf "_law_world" "_law_world" (defArgs s_world) (defBody s_world) (defScope s_world) .none kV_world dc_world pm_world an_world cd_world ct_world), sl_world⟩)
    (c_world : PySem.W.codeIn K cd_world "_law_world" = true)
    (k_world : PySem.W.keepIn K (.ref f_world) = true)
    (a_number : PySem.W.nsIn K mainGlobals "_law_number" = some (some (.ref f_number)))
    (l_number : K.lookup f_number = some ⟨oc_number, od_number, .func (PySem.W.fnOf "_law_number" "_law_number" (defArgs s_number) (defBody s_number) (defScope s_number) .none kV_number dc_number pm_number an_number cd_number ct_number), sl_number⟩)
    (c_number : PySem.W.codeIn K cd_number "_law_number" = true)
    (k_number : PySem.W.keepIn K (.ref f_number) = true)
    (a_lowest : PySem.W.nsIn K mainGlobals "_law_lowest" = some (some (.ref f_lowest)))
    (l_lowest : K.lookup f_lowest = some ⟨oc_lowest, od_lowest, .func (PySem.W.fnOf "_law_lowest" "_law_lowest" (defArgs s_lowest) (defBody s_lowest) (defScope s_lowest) .none kV_lowest dc_lowest pm_lowest an_lowest cd_lowest ct_lowest), sl_lowest⟩)
    (c_lowest : PySem.W.codeIn K cd_lowest "_law_lowest" = true)
    (k_lowest : PySem.W.keepIn K (.ref f_lowest) = true)
    (a_wide : PySem.W.nsIn K mainGlobals "_law_wide" = some (some (.ref f_wide)))
    (l_wide : K.lookup f_wide = some ⟨oc_wide, od_wide, .func (PySem.W.fnOf "_law_wide" "_law_wide" (defArgs s_wide) (defBody s_wide) (defScope s_wide) .none kV_wide dc_wide pm_wide an_wide cd_wide ct_wide), sl_wide⟩)
    (c_wide : PySem.W.codeIn K cd_wide "_law_wide" = true)
    (k_wide : PySem.W.keepIn K (.ref f_wide) = true)
    (a_large : PySem.W.nsIn K mainGlobals "_law_large" = some (some (.ref f_large)))
    (l_large : K.lookup f_large = some ⟨oc_large, od_large, .func (PySem.W.fnOf "_law_large" "_law_large" (defArgs s_large) (defBody s_large) (defScope s_large) .none kV_large dc_large pm_large an_large cd_large ct_large), sl_large⟩)
    (c_large : PySem.W.codeIn K cd_large "_law_large" = true)
    (k_large : PySem.W.keepIn K (.ref f_large) = true)
    (a_kind : PySem.W.nsIn K mainGlobals "_law_kind" = some (some (.ref f_kind)))
    (l_kind : K.lookup f_kind = some ⟨oc_kind, od_kind, .func (PySem.W.fnOf "_law_kind" "_law_kind" (defArgs s_kind) (defBody s_kind) (defScope s_kind) .none kV_kind dc_kind pm_kind an_kind cd_kind ct_kind), sl_kind⟩)
    (c_kind : PySem.W.codeIn K cd_kind "_law_kind" = true)
    (k_kind : PySem.W.keepIn K (.ref f_kind) = true)
    (a_some : PySem.W.nsIn K mainGlobals "_law_some" = some (some (.ref f_some)))
    (l_some : K.lookup f_some = some ⟨oc_some, od_some, .func (PySem.W.fnOf "_law_some" "_law_some" (defArgs s_some) (defBody s_some) (defScope s_some) .none kV_some dc_some pm_some an_some cd_some ct_some), sl_some⟩)
    (c_some : PySem.W.codeIn K cd_some "_law_some" = true)
    (k_some : PySem.W.keepIn K (.ref f_some) = true)
    (a_making : PySem.W.nsIn K mainGlobals "_law_making" = some (some (.ref f_making)))
    (l_making : K.lookup f_making = some ⟨oc_making, od_making, .func (PySem.W.fnOf "_law_making" "_law_making" (defArgs s_making) (defBody s_making) (defScope s_making) .none kV_making dc_making pm_making an_making cd_making ct_making), sl_making⟩)
    (c_making : PySem.W.codeIn K cd_making "_law_making" = true)
    (k_making : PySem.W.keepIn K (.ref f_making) = true)
    (a_again : PySem.W.nsIn K mainGlobals "_law_again" = some (some (.ref f_again)))
    (l_again : K.lookup f_again = some ⟨oc_again, od_again, .func (PySem.W.fnOf "_law_again" "_law_again" (defArgs s_again) (defBody s_again) (defScope s_again) .none kV_again dc_again pm_again an_again cd_again ct_again), sl_again⟩)
    (c_again : PySem.W.codeIn K cd_again "_law_again" = true)
    (k_again : PySem.W.keepIn K (.ref f_again) = true)
    (a_node : PySem.W.nsIn K mainGlobals "_law_node" = some (some (.ref f_node)))
    (l_node : K.lookup f_node = some ⟨oc_node, od_node, .func (PySem.W.fnOf "_law_node" "_law_node" (defArgs s_node) (defBody s_node) (defScope s_node) .none kV_node dc_node pm_node an_node cd_node ct_node), sl_node⟩)
    (c_node : PySem.W.codeIn K cd_node "_law_node" = true)
    (k_node : PySem.W.keepIn K (.ref f_node) = true)
    (a_node_sort : PySem.W.nsIn K mainGlobals "_law_node_sort" = some (some (.ref f_node_sort)))
    (l_node_sort : K.lookup f_node_sort = some ⟨oc_node_sort, od_node_sort, .func (PySem.W.fnOf "_law_node_sort" "_law_node_sort" (defArgs s_node_sort) (defBody s_node_sort) (defScope s_node_sort) .none kV_node_sort dc_node_sort pm_node_sort an_node_sort cd_node_sort ct_node_sort), sl_node_sort⟩)
    (c_node_sort : PySem.W.codeIn K cd_node_sort "_law_node_sort" = true)
    (k_node_sort : PySem.W.keepIn K (.ref f_node_sort) = true)
    (a_whole : PySem.W.nsIn K mainGlobals "_law_whole" = some (some (.ref f_whole)))
    (l_whole : K.lookup f_whole = some ⟨oc_whole, od_whole, .func (PySem.W.fnOf "_law_whole" "_law_whole" (defArgs s_whole) (defBody s_whole) (defScope s_whole) .none kV_whole dc_whole pm_whole an_whole cd_whole ct_whole), sl_whole⟩)
    (c_whole : PySem.W.codeIn K cd_whole "_law_whole" = true)
    (k_whole : PySem.W.keepIn K (.ref f_whole) = true)
    (a_alike : PySem.W.nsIn K mainGlobals "_law_alike" = some (some (.ref f_alike)))
    (l_alike : K.lookup f_alike = some ⟨oc_alike, od_alike, .func (PySem.W.fnOf "_law_alike" "_law_alike" (defArgs s_alike) (defBody s_alike) (defScope s_alike) .none kV_alike dc_alike pm_alike an_alike cd_alike ct_alike), sl_alike⟩)
    (c_alike : PySem.W.codeIn K cd_alike "_law_alike" = true)
    (k_alike : PySem.W.keepIn K (.ref f_alike) = true)
    (a_asked : PySem.W.nsIn K mainGlobals "_law_asked" = some (some (.ref f_asked)))
    (l_asked : K.lookup f_asked = some ⟨oc_asked, od_asked, .func (PySem.W.fnOf "_law_asked" "_law_asked" (defArgs s_asked) (defBody s_asked) (defScope s_asked) .none kV_asked dc_asked pm_asked an_asked cd_asked ct_asked), sl_asked⟩)
    (c_asked : PySem.W.codeIn K cd_asked "_law_asked" = true)
    (k_asked : PySem.W.keepIn K (.ref f_asked) = true)
    (a_refused : PySem.W.nsIn K mainGlobals "_law_refused" = some (some (.ref f_refused)))
    (l_refused : K.lookup f_refused = some ⟨oc_refused, od_refused, .func (PySem.W.fnOf "_law_refused" "_law_refused" (defArgs s_refused) (defBody s_refused) (defScope s_refused) .none kV_refused dc_refused pm_refused an_refused cd_refused ct_refused), sl_refused⟩)
    (c_refused : PySem.W.codeIn K cd_refused "_law_refused" = true)
    (k_refused : PySem.W.keepIn K (.ref f_refused) = true)
    (a_refused_by_base : PySem.W.nsIn K mainGlobals "_law_refused_by_base" = some (some (.ref f_refused_by_base)))
    (l_refused_by_base : K.lookup f_refused_by_base = some ⟨oc_refused_by_base, od_refused_by_base, .func (PySem.W.fnOf "_law_refused_by_base" "_law_refused_by_base" (defArgs s_refused_by_base) (defBody s_refused_by_base) (defScope s_refused_by_base) .none kV_refused_by_base dc_refused_by_base pm_refused_by_base an_refused_by_base cd_refused_by_base ct_refused_by_base), sl_refused_by_base⟩)
    (c_refused_by_base : PySem.W.codeIn K cd_refused_by_base "_law_refused_by_base" = true)
    (k_refused_by_base : PySem.W.keepIn K (.ref f_refused_by_base) = true)
    (a_at : PySem.W.nsIn K mainGlobals "_law_at" = some (some (.ref f_at)))
    (l_at : K.lookup f_at = some ⟨oc_at, od_at, .func (PySem.W.fnOf "_law_at" "_law_at" (defArgs s_at) (defBody s_at) (defScope s_at) .none kV_at dc_at pm_at an_at cd_at ct_at), sl_at⟩)
    (c_at : PySem.W.codeIn K cd_at "_law_at" = true)
    (k_at : PySem.W.keepIn K (.ref f_at) = true)
    (a_step : PySem.W.nsIn K mainGlobals "_law_step" = some (some (.ref f_step)))
    (l_step : K.lookup f_step = some ⟨oc_step, od_step, .func (PySem.W.fnOf "_law_step" "_law_step" (defArgs s_step) (defBody s_step) (defScope s_step) .none kV_step dc_step pm_step an_step cd_step ct_step), sl_step⟩)
    (c_step : PySem.W.codeIn K cd_step "_law_step" = true)
    (k_step : PySem.W.keepIn K (.ref f_step) = true)
    (a_end : PySem.W.nsIn K mainGlobals "_law_end" = some (some (.ref f_end)))
    (l_end : K.lookup f_end = some ⟨oc_end, od_end, .func (PySem.W.fnOf "_law_end" "_law_end" (defArgs s_end) (defBody s_end) (defScope s_end) .none kV_end dc_end pm_end an_end cd_end ct_end), sl_end⟩)
    (c_end : PySem.W.codeIn K cd_end "_law_end" = true)
    (k_end : PySem.W.keepIn K (.ref f_end) = true)
    (a_law : PySem.W.nsIn K mainGlobals "law" = some (some (.ref f_law)))
    (l_law : K.lookup f_law = some ⟨oc_law, od_law, .func (PySem.W.fnOf "law" "law" (defArgs s_law) (defBody s_law) (defScope s_law) .none kV_law dc_law pm_law an_law cd_law ct_law), sl_law⟩)
    (c_law : PySem.W.codeIn K cd_law "law" = true)
    (k_law : PySem.W.keepIn K (.ref f_law) = true)
    (m_len : PySem.W.nsIn K mainGlobals "len" = some none)
    (m_int : PySem.W.nsIn K mainGlobals "int" = some none)
    (m_abs : PySem.W.nsIn K mainGlobals "abs" = some none)
    (m_min : PySem.W.nsIn K mainGlobals "min" = some none)
    (m_max : PySem.W.nsIn K mainGlobals "max" = some none)
    (m_isinstance : PySem.W.nsIn K mainGlobals "isinstance" = some none)
    (m_range : PySem.W.nsIn K mainGlobals "range" = some none)
    (m_bool : PySem.W.nsIn K mainGlobals "bool" = some none)
    (m_str : PySem.W.nsIn K mainGlobals "str" = some none)
    (m_list : PySem.W.nsIn K mainGlobals "list" = some none)
    (m_tuple : PySem.W.nsIn K mainGlobals "tuple" = some none)
    (m_sorted : PySem.W.nsIn K mainGlobals "sorted" = some none)
    (m_all : PySem.W.nsIn K mainGlobals "all" = some none)
    (m_ValueError : PySem.W.nsIn K mainGlobals "ValueError" = some none)
    (m_iter : PySem.W.nsIn K mainGlobals "iter" = some none)
    (n_BadNode : PySem.W.nsIn K mainGlobals "BadNode" = some (some (.ref C_BadNode)))
    (n_PaperError : PySem.W.nsIn K mainGlobals "PaperError" = some (some (.ref C_PaperError)))
    (n_BadModel : PySem.W.nsIn K mainGlobals "BadModel" = some (some (.ref C_BadModel)))
    (n_BadName : PySem.W.nsIn K mainGlobals "BadName" = some (some (.ref C_BadName)))
    (n_BadLiteral : PySem.W.nsIn K mainGlobals "BadLiteral" = some (some (.ref C_BadLiteral)))
    (n_BadRatio : PySem.W.nsIn K mainGlobals "BadRatio" = some (some (.ref C_BadRatio)))
    (n_BadSort : PySem.W.nsIn K mainGlobals "BadSort" = some (some (.ref C_BadSort)))
    (n_BadText : PySem.W.nsIn K mainGlobals "BadText" = some (some (.ref C_BadText)))
    (n_NameTaken : PySem.W.nsIn K mainGlobals "NameTaken" = some (some (.ref C_NameTaken)))
    (n_NoAnswer : PySem.W.nsIn K mainGlobals "NoAnswer" = some (some (.ref C_NoAnswer)))
    (n_NoLevel : PySem.W.nsIn K mainGlobals "NoLevel" = some (some (.ref C_NoLevel)))
    (n_UnknownName : PySem.W.nsIn K mainGlobals "UnknownName" = some (some (.ref C_UnknownName)))
    (n_Signature : PySem.W.nsIn K mainGlobals "Signature" = some (some (.ref C_Signature)))
    (n_Bank : PySem.W.nsIn K mainGlobals "Bank" = some (some (.ref C_Bank)))
    (a_BadNode_init : PySem.W.findIn K (.ref C_BadNode) "__init__" = some (some (.ref f_BadNode_init)))
    (i_BadNode_init : PySem.W.typeIn K (.ref f_BadNode_init) = some (.type "function"))
    (l_BadNode_init : K.lookup f_BadNode_init = some ⟨oc_BadNode_init, od_BadNode_init, .func (PySem.W.fnOf "__init__" "BadNode.__init__" (defArgs s_BadNode_init) (defBody s_BadNode_init) (defScope s_BadNode_init) .none kV_BadNode_init dc_BadNode_init pm_BadNode_init an_BadNode_init cd_BadNode_init ct_BadNode_init), sl_BadNode_init⟩)
    (c_BadNode_init : PySem.W.codeIn K cd_BadNode_init "BadNode.__init__" = true)
    (k_BadNode_init : PySem.W.keepIn K (.ref f_BadNode_init) = true)
    (a_Bank_init : PySem.W.findIn K (.ref C_Bank) "__init__" = some (some (.ref f_Bank_init)))
    (i_Bank_init : PySem.W.typeIn K (.ref f_Bank_init) = some (.type "function"))
    (l_Bank_init : K.lookup f_Bank_init = some ⟨oc_Bank_init, od_Bank_init, .func (PySem.W.fnOf "__init__" "Bank.__init__" (defArgs s_Bank_init) (defBody s_Bank_init) (defScope s_Bank_init) .none kV_Bank_init dc_Bank_init pm_Bank_init an_Bank_init cd_Bank_init ct_Bank_init), sl_Bank_init⟩)
    (c_Bank_init : PySem.W.codeIn K cd_Bank_init "Bank.__init__" = true)
    (k_Bank_init : PySem.W.keepIn K (.ref f_Bank_init) = true)
    (a_Bank_make : PySem.W.findIn K (.ref C_Bank) "make" = some (some (.ref f_Bank_make)))
    (i_Bank_make : PySem.W.typeIn K (.ref f_Bank_make) = some (.type "function"))
    (l_Bank_make : K.lookup f_Bank_make = some ⟨oc_Bank_make, od_Bank_make, .func (PySem.W.fnOf "make" "Bank.make" (defArgs s_Bank_make) (defBody s_Bank_make) (defScope s_Bank_make) .none kV_Bank_make dc_Bank_make pm_Bank_make an_Bank_make cd_Bank_make ct_Bank_make), sl_Bank_make⟩)
    (c_Bank_make : PySem.W.codeIn K cd_Bank_make "Bank.make" = true)
    (k_Bank_make : PySem.W.keepIn K (.ref f_Bank_make) = true)
    (a_Bank_seek : PySem.W.findIn K (.ref C_Bank) "seek" = some (some (.ref f_Bank_seek)))
    (i_Bank_seek : PySem.W.typeIn K (.ref f_Bank_seek) = some (.type "function"))
    (l_Bank_seek : K.lookup f_Bank_seek = some ⟨oc_Bank_seek, od_Bank_seek, .func (PySem.W.fnOf "seek" "Bank.seek" (defArgs s_Bank_seek) (defBody s_Bank_seek) (defScope s_Bank_seek) .none kV_Bank_seek dc_Bank_seek pm_Bank_seek an_Bank_seek cd_Bank_seek ct_Bank_seek), sl_Bank_seek⟩)
    (c_Bank_seek : PySem.W.codeIn K cd_Bank_seek "Bank.seek" = true)
    (k_Bank_seek : PySem.W.keepIn K (.ref f_Bank_seek) = true)
    (a_Bank_node : PySem.W.findIn K (.ref C_Bank) "node" = some (some (.ref f_Bank_node)))
    (i_Bank_node : PySem.W.typeIn K (.ref f_Bank_node) = some (.type "function"))
    (l_Bank_node : K.lookup f_Bank_node = some ⟨oc_Bank_node, od_Bank_node, .func (PySem.W.fnOf "node" "Bank.node" (defArgs s_Bank_node) (defBody s_Bank_node) (defScope s_Bank_node) .none kV_Bank_node dc_Bank_node pm_Bank_node an_Bank_node cd_Bank_node ct_Bank_node), sl_Bank_node⟩)
    (c_Bank_node : PySem.W.codeIn K cd_Bank_node "Bank.node" = true)
    (k_Bank_node : PySem.W.keepIn K (.ref f_Bank_node) = true)
    (a_Bank_sort_of : PySem.W.findIn K (.ref C_Bank) "sort_of" = some (some (.ref f_Bank_sort_of)))
    (i_Bank_sort_of : PySem.W.typeIn K (.ref f_Bank_sort_of) = some (.type "function"))
    (l_Bank_sort_of : K.lookup f_Bank_sort_of = some ⟨oc_Bank_sort_of, od_Bank_sort_of, .func (PySem.W.fnOf "sort_of" "Bank.sort_of" (defArgs s_Bank_sort_of) (defBody s_Bank_sort_of) (defScope s_Bank_sort_of) .none kV_Bank_sort_of dc_Bank_sort_of pm_Bank_sort_of an_Bank_sort_of cd_Bank_sort_of ct_Bank_sort_of), sl_Bank_sort_of⟩)
    (c_Bank_sort_of : PySem.W.codeIn K cd_Bank_sort_of "Bank.sort_of" = true)
    (k_Bank_sort_of : PySem.W.keepIn K (.ref f_Bank_sort_of) = true)
    (a_Bank_has : PySem.W.findIn K (.ref C_Bank) "has" = some (some (.ref f_Bank_has)))
    (i_Bank_has : PySem.W.typeIn K (.ref f_Bank_has) = some (.type "function"))
    (l_Bank_has : K.lookup f_Bank_has = some ⟨oc_Bank_has, od_Bank_has, .func (PySem.W.fnOf "has" "Bank.has" (defArgs s_Bank_has) (defBody s_Bank_has) (defScope s_Bank_has) .none kV_Bank_has dc_Bank_has pm_Bank_has an_Bank_has cd_Bank_has ct_Bank_has), sl_Bank_has⟩)
    (c_Bank_has : PySem.W.codeIn K cd_Bank_has "Bank.has" = true)
    (k_Bank_has : PySem.W.keepIn K (.ref f_Bank_has) = true)
    (a_Bank_len : PySem.W.findIn K (.ref C_Bank) "__len__" = some (some (.ref f_Bank_len)))
    (i_Bank_len : PySem.W.typeIn K (.ref f_Bank_len) = some (.type "function"))
    (l_Bank_len : K.lookup f_Bank_len = some ⟨oc_Bank_len, od_Bank_len, .func (PySem.W.fnOf "__len__" "Bank.__len__" (defArgs s_Bank_len) (defBody s_Bank_len) (defScope s_Bank_len) .none kV_Bank_len dc_Bank_len pm_Bank_len an_Bank_len cd_Bank_len ct_Bank_len), sl_Bank_len⟩)
    (c_Bank_len : PySem.W.codeIn K cd_Bank_len "Bank.__len__" = true)
    (k_Bank_len : PySem.W.keepIn K (.ref f_Bank_len) = true)
    (a_Bank_iter : PySem.W.findIn K (.ref C_Bank) "__iter__" = some (some (.ref f_Bank_iter)))
    (i_Bank_iter : PySem.W.typeIn K (.ref f_Bank_iter) = some (.type "function"))
    (l_Bank_iter : K.lookup f_Bank_iter = some ⟨oc_Bank_iter, od_Bank_iter, .func (PySem.W.fnOf "__iter__" "Bank.__iter__" (defArgs s_Bank_iter) (defBody s_Bank_iter) (defScope s_Bank_iter) .none kV_Bank_iter dc_Bank_iter pm_Bank_iter an_Bank_iter cd_Bank_iter ct_Bank_iter), sl_Bank_iter⟩)
    (c_Bank_iter : PySem.W.codeIn K cd_Bank_iter "Bank.__iter__" = true)
    (k_Bank_iter : PySem.W.keepIn K (.ref f_Bank_iter) = true)
    (a_Signature_init : PySem.W.findIn K (.ref C_Signature) "__init__" = some (some (.ref f_Signature_init)))
    (i_Signature_init : PySem.W.typeIn K (.ref f_Signature_init) = some (.type "function"))
    (l_Signature_init : K.lookup f_Signature_init = some ⟨oc_Signature_init, od_Signature_init, .func (PySem.W.fnOf "__init__" "Signature.__init__" (defArgs s_Signature_init) (defBody s_Signature_init) (defScope s_Signature_init) .none kV_Signature_init dc_Signature_init pm_Signature_init an_Signature_init cd_Signature_init ct_Signature_init), sl_Signature_init⟩)
    (c_Signature_init : PySem.W.codeIn K cd_Signature_init "Signature.__init__" = true)
    (k_Signature_init : PySem.W.keepIn K (.ref f_Signature_init) = true)
    (a_Signature_declare_sort : PySem.W.findIn K (.ref C_Signature) "declare_sort" = some (some (.ref f_Signature_declare_sort)))
    (i_Signature_declare_sort : PySem.W.typeIn K (.ref f_Signature_declare_sort) = some (.type "function"))
    (l_Signature_declare_sort : K.lookup f_Signature_declare_sort = some ⟨oc_Signature_declare_sort, od_Signature_declare_sort, .func (PySem.W.fnOf "declare_sort" "Signature.declare_sort" (defArgs s_Signature_declare_sort) (defBody s_Signature_declare_sort) (defScope s_Signature_declare_sort) .none kV_Signature_declare_sort dc_Signature_declare_sort pm_Signature_declare_sort an_Signature_declare_sort cd_Signature_declare_sort ct_Signature_declare_sort), sl_Signature_declare_sort⟩)
    (c_Signature_declare_sort : PySem.W.codeIn K cd_Signature_declare_sort "Signature.declare_sort" = true)
    (k_Signature_declare_sort : PySem.W.keepIn K (.ref f_Signature_declare_sort) = true)
    (a_Signature_declare_function : PySem.W.findIn K (.ref C_Signature) "declare_function" = some (some (.ref f_Signature_declare_function)))
    (i_Signature_declare_function : PySem.W.typeIn K (.ref f_Signature_declare_function) = some (.type "function"))
    (l_Signature_declare_function : K.lookup f_Signature_declare_function = some ⟨oc_Signature_declare_function, od_Signature_declare_function, .func (PySem.W.fnOf "declare_function" "Signature.declare_function" (defArgs s_Signature_declare_function) (defBody s_Signature_declare_function) (defScope s_Signature_declare_function) .none kV_Signature_declare_function dc_Signature_declare_function pm_Signature_declare_function an_Signature_declare_function cd_Signature_declare_function ct_Signature_declare_function), sl_Signature_declare_function⟩)
    (c_Signature_declare_function : PySem.W.codeIn K cd_Signature_declare_function "Signature.declare_function" = true)
    (k_Signature_declare_function : PySem.W.keepIn K (.ref f_Signature_declare_function) = true)
    (a_Signature_functions : PySem.W.findIn K (.ref C_Signature) "functions" = some (some (.ref f_Signature_functions)))
    (i_Signature_functions : PySem.W.typeIn K (.ref f_Signature_functions) = some (.type "function"))
    (l_Signature_functions : K.lookup f_Signature_functions = some ⟨oc_Signature_functions, od_Signature_functions, .func (PySem.W.fnOf "functions" "Signature.functions" (defArgs s_Signature_functions) (defBody s_Signature_functions) (defScope s_Signature_functions) .none kV_Signature_functions dc_Signature_functions pm_Signature_functions an_Signature_functions cd_Signature_functions ct_Signature_functions), sl_Signature_functions⟩)
    (c_Signature_functions : PySem.W.codeIn K cd_Signature_functions "Signature.functions" = true)
    (k_Signature_functions : PySem.W.keepIn K (.ref f_Signature_functions) = true)
    (a_Signature_knows_sort : PySem.W.findIn K (.ref C_Signature) "knows_sort" = some (some (.ref f_Signature_knows_sort)))
    (i_Signature_knows_sort : PySem.W.typeIn K (.ref f_Signature_knows_sort) = some (.type "function"))
    (l_Signature_knows_sort : K.lookup f_Signature_knows_sort = some ⟨oc_Signature_knows_sort, od_Signature_knows_sort, .func (PySem.W.fnOf "knows_sort" "Signature.knows_sort" (defArgs s_Signature_knows_sort) (defBody s_Signature_knows_sort) (defScope s_Signature_knows_sort) .none kV_Signature_knows_sort dc_Signature_knows_sort pm_Signature_knows_sort an_Signature_knows_sort cd_Signature_knows_sort ct_Signature_knows_sort), sl_Signature_knows_sort⟩)
    (c_Signature_knows_sort : PySem.W.codeIn K cd_Signature_knows_sort "Signature.knows_sort" = true)
    (k_Signature_knows_sort : PySem.W.keepIn K (.ref f_Signature_knows_sort) = true)
    (a_Signature_knows_function : PySem.W.findIn K (.ref C_Signature) "knows_function" = some (some (.ref f_Signature_knows_function)))
    (i_Signature_knows_function : PySem.W.typeIn K (.ref f_Signature_knows_function) = some (.type "function"))
    (l_Signature_knows_function : K.lookup f_Signature_knows_function = some ⟨oc_Signature_knows_function, od_Signature_knows_function, .func (PySem.W.fnOf "knows_function" "Signature.knows_function" (defArgs s_Signature_knows_function) (defBody s_Signature_knows_function) (defScope s_Signature_knows_function) .none kV_Signature_knows_function dc_Signature_knows_function pm_Signature_knows_function an_Signature_knows_function cd_Signature_knows_function ct_Signature_knows_function), sl_Signature_knows_function⟩)
    (c_Signature_knows_function : PySem.W.codeIn K cd_Signature_knows_function "Signature.knows_function" = true)
    (k_Signature_knows_function : PySem.W.keepIn K (.ref f_Signature_knows_function) = true)
    (a_Signature_arguments_of : PySem.W.findIn K (.ref C_Signature) "arguments_of" = some (some (.ref f_Signature_arguments_of)))
    (i_Signature_arguments_of : PySem.W.typeIn K (.ref f_Signature_arguments_of) = some (.type "function"))
    (l_Signature_arguments_of : K.lookup f_Signature_arguments_of = some ⟨oc_Signature_arguments_of, od_Signature_arguments_of, .func (PySem.W.fnOf "arguments_of" "Signature.arguments_of" (defArgs s_Signature_arguments_of) (defBody s_Signature_arguments_of) (defScope s_Signature_arguments_of) .none kV_Signature_arguments_of dc_Signature_arguments_of pm_Signature_arguments_of an_Signature_arguments_of cd_Signature_arguments_of ct_Signature_arguments_of), sl_Signature_arguments_of⟩)
    (c_Signature_arguments_of : PySem.W.codeIn K cd_Signature_arguments_of "Signature.arguments_of" = true)
    (k_Signature_arguments_of : PySem.W.keepIn K (.ref f_Signature_arguments_of) = true)
    (a_Signature_result_of : PySem.W.findIn K (.ref C_Signature) "result_of" = some (some (.ref f_Signature_result_of)))
    (i_Signature_result_of : PySem.W.typeIn K (.ref f_Signature_result_of) = some (.type "function"))
    (l_Signature_result_of : K.lookup f_Signature_result_of = some ⟨oc_Signature_result_of, od_Signature_result_of, .func (PySem.W.fnOf "result_of" "Signature.result_of" (defArgs s_Signature_result_of) (defBody s_Signature_result_of) (defScope s_Signature_result_of) .none kV_Signature_result_of dc_Signature_result_of pm_Signature_result_of an_Signature_result_of cd_Signature_result_of ct_Signature_result_of), sl_Signature_result_of⟩)
    (c_Signature_result_of : PySem.W.codeIn K cd_Signature_result_of "Signature.result_of" = true)
    (k_Signature_result_of : PySem.W.keepIn K (.ref f_Signature_result_of) = true)
    (a_Signature_function : PySem.W.findIn K (.ref C_Signature) "_function" = some (some (.ref f_Signature_function)))
    (i_Signature_function : PySem.W.typeIn K (.ref f_Signature_function) = some (.type "function"))
    (l_Signature_function : K.lookup f_Signature_function = some ⟨oc_Signature_function, od_Signature_function, .func (PySem.W.fnOf "_function" "Signature._function" (defArgs s_Signature_function) (defBody s_Signature_function) (defScope s_Signature_function) .none kV_Signature_function dc_Signature_function pm_Signature_function an_Signature_function cd_Signature_function ct_Signature_function), sl_Signature_function⟩)
    (c_Signature_function : PySem.W.codeIn K cd_Signature_function "Signature._function" = true)
    (k_Signature_function : PySem.W.keepIn K (.ref f_Signature_function) = true)
    (a_Signature_refuse_name : PySem.W.findIn K (.ref C_Signature) "_refuse_name" = some (some (.ref f_Signature_refuse_name)))
    (i_Signature_refuse_name : PySem.W.typeIn K (.ref f_Signature_refuse_name) = some (.type "function"))
    (l_Signature_refuse_name : K.lookup f_Signature_refuse_name = some ⟨oc_Signature_refuse_name, od_Signature_refuse_name, .func (PySem.W.fnOf "_refuse_name" "Signature._refuse_name" (defArgs s_Signature_refuse_name) (defBody s_Signature_refuse_name) (defScope s_Signature_refuse_name) .none kV_Signature_refuse_name dc_Signature_refuse_name pm_Signature_refuse_name an_Signature_refuse_name cd_Signature_refuse_name ct_Signature_refuse_name), sl_Signature_refuse_name⟩)
    (c_Signature_refuse_name : PySem.W.codeIn K cd_Signature_refuse_name "Signature._refuse_name" = true)
    (k_Signature_refuse_name : PySem.W.keepIn K (.ref f_Signature_refuse_name) = true)
    (pg_Signature : PySem.W.plainGet K C_Signature Str.empty = true)
    (hd_Signature : PySem.W.hasDictIn K C_Signature = true)
    (po_Signature : PySem.W.plainOver K C_Signature = true)
    (sa_Signature : PySem.W.findIn K (.ref C_Signature) "__setattr__" = some (some (.builtin "object.__setattr__")))
    (mk_Signature : PySem.W.makesIn K C_Signature = true)
    (kc_Signature : PySem.W.keepIn K (.ref C_Signature) = true)
    (nf_Signature__sorts : PySem.W.findIn K (.ref C_Signature) "_sorts" = some none)
    (nf_Signature__functions : PySem.W.findIn K (.ref C_Signature) "_functions" = some none)
    (pg_Bank : PySem.W.plainGet K C_Bank Str.empty = true)
    (hd_Bank : PySem.W.hasDictIn K C_Bank = true)
    (po_Bank : PySem.W.plainOver K C_Bank = true)
    (sa_Bank : PySem.W.findIn K (.ref C_Bank) "__setattr__" = some (some (.builtin "object.__setattr__")))
    (mk_Bank : PySem.W.makesIn K C_Bank = true)
    (kc_Bank : PySem.W.keepIn K (.ref C_Bank) = true)
    (nf_Bank_signature : PySem.W.findIn K (.ref C_Bank) "signature" = some none)
    (nf_Bank__nodes : PySem.W.findIn K (.ref C_Bank) "_nodes" = some none)
    (nf_Bank__sorts : PySem.W.findIn K (.ref C_Bank) "_sorts" = some none)
    (nf_Bank__numbers : PySem.W.findIn K (.ref C_Bank) "_numbers" = some none)
    (nz_OPS : PySem.W.nsIn K mainGlobals "OPS" = some (some (.ref A_OPS)))
    (nz_RESERVED : PySem.W.nsIn K mainGlobals "RESERVED" = some (some (.ref A_RESERVED)))
    (nz_BASE_SORTS : PySem.W.nsIn K mainGlobals "BASE_SORTS" = some (some (.ref A_BASE_SORTS)))
    (nz_CONNECTIVES : PySem.W.nsIn K mainGlobals "CONNECTIVES" = some (some (.ref A_CONNECTIVES)))
    (nz_LEAF_SORTS : PySem.W.nsIn K mainGlobals "LEAF_SORTS" = some (some (.ref A_LEAF_SORTS)))
    (nz_SUMS : PySem.W.nsIn K mainGlobals "SUMS" = some (some (.ref A_SUMS)))
    (zl_OPS : K.lookup A_OPS = some ⟨.type "tuple", dd_OPS, .seq #[.str (_root_.SX.S [116, 114, 117, 101]) t_OPS_0, .str (_root_.SX.S [102, 97, 108, 115, 101]) t_OPS_1, .str (_root_.SX.S [110, 111, 116]) t_OPS_2, .str (_root_.SX.S [97, 110, 100]) t_OPS_3, .str (_root_.SX.S [111, 114]) t_OPS_4, .str (_root_.SX.S [105, 109, 112, 108, 121]) t_OPS_5, .str (_root_.SX.S [105, 102]) t_OPS_6, .str (_root_.SX.S [101, 113, 117, 97, 108]) t_OPS_7, .str (_root_.SX.S [100, 105, 115, 116, 105, 110, 99, 116]) t_OPS_8, .str (_root_.SX.S [109, 111, 115, 116]) t_OPS_9, .str (_root_.SX.S [108, 101, 115, 115]) t_OPS_10, .str (_root_.SX.S [119, 104, 111, 108, 101]) t_OPS_11, .str (_root_.SX.S [115, 104, 105, 102, 116]) t_OPS_12, .str (_root_.SX.S [114, 97, 116, 105, 111]) t_OPS_13, .str (_root_.SX.S [115, 117, 109]) t_OPS_14, .str (_root_.SX.S [115, 99, 97, 108, 101]) t_OPS_15, .str (_root_.SX.S [99, 97, 108, 108]) t_OPS_16] nn_OPS, sl_OPS⟩)
    (zl_RESERVED : K.lookup A_RESERVED = some ⟨.type "tuple", dd_RESERVED, .seq #[.str (_root_.SX.S [116, 114, 117, 116, 104]) t_RESERVED_0, .str (_root_.SX.S [119, 104, 111, 108, 101]) t_RESERVED_1, .str (_root_.SX.S [114, 97, 116, 105, 111]) t_RESERVED_2, .str (_root_.SX.S [116, 114, 117, 101]) t_RESERVED_3, .str (_root_.SX.S [102, 97, 108, 115, 101]) t_RESERVED_4, .str (_root_.SX.S [110, 111, 116]) t_RESERVED_5, .str (_root_.SX.S [97, 110, 100]) t_RESERVED_6, .str (_root_.SX.S [111, 114]) t_RESERVED_7, .str (_root_.SX.S [105, 109, 112, 108, 121]) t_RESERVED_8, .str (_root_.SX.S [105, 102]) t_RESERVED_9, .str (_root_.SX.S [100, 105, 115, 116, 105, 110, 99, 116]) t_RESERVED_10, .str (_root_.SX.S [108, 101, 116]) t_RESERVED_11] nn_RESERVED, sl_RESERVED⟩)
    (zl_BASE_SORTS : K.lookup A_BASE_SORTS = some ⟨.type "tuple", dd_BASE_SORTS, .seq #[.str (_root_.SX.S [116, 114, 117, 116, 104]) t_BASE_SORTS_0, .str (_root_.SX.S [119, 104, 111, 108, 101]) t_BASE_SORTS_1, .str (_root_.SX.S [114, 97, 116, 105, 111]) t_BASE_SORTS_2] nn_BASE_SORTS, sl_BASE_SORTS⟩)
    (zl_CONNECTIVES : K.lookup A_CONNECTIVES = some ⟨.type "tuple", dd_CONNECTIVES, .seq #[.str (_root_.SX.S [110, 111, 116]) t_CONNECTIVES_0, .str (_root_.SX.S [97, 110, 100]) t_CONNECTIVES_1, .str (_root_.SX.S [111, 114]) t_CONNECTIVES_2, .str (_root_.SX.S [105, 109, 112, 108, 121]) t_CONNECTIVES_3] nn_CONNECTIVES, sl_CONNECTIVES⟩)
    (nd_LEAF_SORTS_0 : PySem.W.nsIn K A_LEAF_SORTS (_root_.SX.S [116, 114, 117, 101]) = some (some (.str (_root_.SX.S [116, 114, 117, 116, 104]) t_LEAF_SORTS_0)))
    (nd_LEAF_SORTS_1 : PySem.W.nsIn K A_LEAF_SORTS (_root_.SX.S [102, 97, 108, 115, 101]) = some (some (.str (_root_.SX.S [116, 114, 117, 116, 104]) t_LEAF_SORTS_1)))
    (nd_LEAF_SORTS_2 : PySem.W.nsIn K A_LEAF_SORTS (_root_.SX.S [119, 104, 111, 108, 101]) = some (some (.str (_root_.SX.S [119, 104, 111, 108, 101]) t_LEAF_SORTS_2)))
    (nd_LEAF_SORTS_3 : PySem.W.nsIn K A_LEAF_SORTS (_root_.SX.S [114, 97, 116, 105, 111]) = some (some (.str (_root_.SX.S [114, 97, 116, 105, 111]) t_LEAF_SORTS_3)))
    (kd_LEAF_SORTS : K.lookup A_LEAF_SORTS = some ⟨.type "dict", none, .dict ke_LEAF_SORTS kn_LEAF_SORTS, #[]⟩)
    (kl_LEAF_SORTS : PySem.W.KeysLit w.params ke_LEAF_SORTS.toList)
    (ko_LEAF_SORTS : (A_LEAF_SORTS == sysModules) = false)
    (nd_SUMS_0 : PySem.W.nsIn K A_SUMS (_root_.SX.S [115, 104, 105, 102, 116]) = some (some (.str (_root_.SX.S [119, 104, 111, 108, 101]) t_SUMS_0)))
    (nd_SUMS_1 : PySem.W.nsIn K A_SUMS (_root_.SX.S [115, 99, 97, 108, 101]) = some (some (.str (_root_.SX.S [114, 97, 116, 105, 111]) t_SUMS_1)))
    (nd_SUMS_2 : PySem.W.nsIn K A_SUMS (_root_.SX.S [115, 117, 109]) = some (some (.str (_root_.SX.S [114, 97, 116, 105, 111]) t_SUMS_2)))
    (kd_SUMS : K.lookup A_SUMS = some ⟨.type "dict", none, .dict ke_SUMS kn_SUMS, #[]⟩)
    (kl_SUMS : PySem.W.KeysLit w.params ke_SUMS.toList)
    (ko_SUMS : (A_SUMS == sysModules) = false)
    (mm_LEAF_SORTS_0 : PySem.W.nsIn K A_LEAF_SORTS (_root_.SX.S [110, 111, 116]) = some none)
    (mm_LEAF_SORTS_1 : PySem.W.nsIn K A_LEAF_SORTS (_root_.SX.S [97, 110, 100]) = some none)
    (mm_LEAF_SORTS_2 : PySem.W.nsIn K A_LEAF_SORTS (_root_.SX.S [111, 114]) = some none)
    (mm_LEAF_SORTS_3 : PySem.W.nsIn K A_LEAF_SORTS (_root_.SX.S [105, 109, 112, 108, 121]) = some none)
    (mm_LEAF_SORTS_4 : PySem.W.nsIn K A_LEAF_SORTS (_root_.SX.S [105, 102]) = some none)
    (mm_LEAF_SORTS_5 : PySem.W.nsIn K A_LEAF_SORTS (_root_.SX.S [101, 113, 117, 97, 108]) = some none)
    (mm_LEAF_SORTS_6 : PySem.W.nsIn K A_LEAF_SORTS (_root_.SX.S [100, 105, 115, 116, 105, 110, 99, 116]) = some none)
    (mm_LEAF_SORTS_7 : PySem.W.nsIn K A_LEAF_SORTS (_root_.SX.S [109, 111, 115, 116]) = some none)
    (mm_LEAF_SORTS_8 : PySem.W.nsIn K A_LEAF_SORTS (_root_.SX.S [108, 101, 115, 115]) = some none)
    (mm_LEAF_SORTS_9 : PySem.W.nsIn K A_LEAF_SORTS (_root_.SX.S [115, 104, 105, 102, 116]) = some none)
    (mm_LEAF_SORTS_10 : PySem.W.nsIn K A_LEAF_SORTS (_root_.SX.S [115, 117, 109]) = some none)
    (mm_LEAF_SORTS_11 : PySem.W.nsIn K A_LEAF_SORTS (_root_.SX.S [115, 99, 97, 108, 101]) = some none)
    (mm_LEAF_SORTS_12 : PySem.W.nsIn K A_LEAF_SORTS (_root_.SX.S [99, 97, 108, 108]) = some none)
    (mm_SUMS_0 : PySem.W.nsIn K A_SUMS (_root_.SX.S [116, 114, 117, 101]) = some none)
    (mm_SUMS_1 : PySem.W.nsIn K A_SUMS (_root_.SX.S [102, 97, 108, 115, 101]) = some none)
    (mm_SUMS_2 : PySem.W.nsIn K A_SUMS (_root_.SX.S [110, 111, 116]) = some none)
    (mm_SUMS_3 : PySem.W.nsIn K A_SUMS (_root_.SX.S [97, 110, 100]) = some none)
    (mm_SUMS_4 : PySem.W.nsIn K A_SUMS (_root_.SX.S [111, 114]) = some none)
    (mm_SUMS_5 : PySem.W.nsIn K A_SUMS (_root_.SX.S [105, 109, 112, 108, 121]) = some none)
    (mm_SUMS_6 : PySem.W.nsIn K A_SUMS (_root_.SX.S [105, 102]) = some none)
    (mm_SUMS_7 : PySem.W.nsIn K A_SUMS (_root_.SX.S [101, 113, 117, 97, 108]) = some none)
    (mm_SUMS_8 : PySem.W.nsIn K A_SUMS (_root_.SX.S [100, 105, 115, 116, 105, 110, 99, 116]) = some none)
    (mm_SUMS_9 : PySem.W.nsIn K A_SUMS (_root_.SX.S [109, 111, 115, 116]) = some none)
    (mm_SUMS_10 : PySem.W.nsIn K A_SUMS (_root_.SX.S [108, 101, 115, 115]) = some none)
    (mm_SUMS_11 : PySem.W.nsIn K A_SUMS (_root_.SX.S [119, 104, 111, 108, 101]) = some none)
    (mm_SUMS_12 : PySem.W.nsIn K A_SUMS (_root_.SX.S [114, 97, 116, 105, 111]) = some none)
    (mm_SUMS_13 : PySem.W.nsIn K A_SUMS (_root_.SX.S [99, 97, 108, 108]) = some none)
    (rd_PaperError : PySem.W.readsIn K C_PaperError (.type "type") = true)
    (ga_PaperError : PySem.W.specialIn K (.ref C_PaperError) "__getattribute__" = some (some (.builtin "type.__getattribute__")))
    (vi_PaperError : PySem.W.findCls K (.ref C_PaperError) (.type "type") "__init__" = some (.val (.builtin "ValueError.__init__")))
    (xL_BadNode : K.lookup C_BadNode = some (excClassObj nm_BadNode q_BadNode C_BadNode N_BadNode bs_BadNode [.ref C_PaperError, .type "ValueError", .type "Exception", .type "BaseException", .type "object"] true sn_BadNode sub_BadNode ab_BadNode col_BadNode dd_BadNode m0_BadNode m1_BadNode m2_BadNode m3_BadNode m5_BadNode "ValueError.__new__"))
    (sa_BadNode : PySem.W.findIn K (.ref C_BadNode) "__setattr__" = some (some (.builtin "object.__setattr__")))
    (eC_BadNode : PySem.W.subIn K (.ref C_BadNode) (.type "BaseException") = some true)
    (tC_BadNode : PySem.W.typeIn K (.ref C_BadNode) = some (.type "type"))
    (kC_BadNode : PySem.W.keepIn K (.ref C_BadNode) = true)
    (hg_BadNode : PySem.W.findIn K (.ref C_BadNode) "__getattribute__" = some (some (.builtin "BaseException.__getattribute__")))
    (hk_BadNode : PySem.W.findIn K (.ref C_BadNode) "__getattr__" = some none)
    (hd_BadNode : PySem.W.hasDictIn K C_BadNode = true)
    (ha_BadNode : PySem.W.findIn K (.ref C_BadNode) "__class__" = some (some (.builtin "object.__class__")))
    (hm_BadNode : PySem.W.mroIn K C_BadNode (.type "object") = some true)
    (no_BadNode : PySem.W.findIn K (.ref C_BadNode) "number" = some none)
    (x_hn : PySem.W.specialIn K (.builtin "object.__class__") "__get__" = some (some (.builtin "getset_descriptor.__get__")))
    (x_ht : PySem.W.takesIn K (.builtin "object.__class__") = some true)
    (e_BadNode_BadNode : PySem.W.exmOne K (.ref C_BadNode) (.ref C_BadNode) = some true)
    (e_BadNode_PaperError : PySem.W.exmOne K (.ref C_BadNode) (.ref C_PaperError) = some true)
    (k_BadNode_BadModel : PySem.W.kitOne K (.ref C_BadNode) (.ref C_BadModel) = some false)
    (k_BadNode_BadName : PySem.W.kitOne K (.ref C_BadNode) (.ref C_BadName) = some false)
    (k_BadNode_BadLiteral : PySem.W.kitOne K (.ref C_BadNode) (.ref C_BadLiteral) = some false)
    (k_BadNode_BadRatio : PySem.W.kitOne K (.ref C_BadNode) (.ref C_BadRatio) = some false)
    (k_BadNode_BadSort : PySem.W.kitOne K (.ref C_BadNode) (.ref C_BadSort) = some false)
    (k_BadNode_BadText : PySem.W.kitOne K (.ref C_BadNode) (.ref C_BadText) = some false)
    (k_BadNode_NameTaken : PySem.W.kitOne K (.ref C_BadNode) (.ref C_NameTaken) = some false)
    (k_BadNode_NoAnswer : PySem.W.kitOne K (.ref C_BadNode) (.ref C_NoAnswer) = some false)
    (k_BadNode_NoLevel : PySem.W.kitOne K (.ref C_BadNode) (.ref C_NoLevel) = some false)
    (k_BadNode_UnknownName : PySem.W.kitOne K (.ref C_BadNode) (.ref C_UnknownName) = some false)
    (k_BadNode_BadNode : PySem.W.kitOne K (.ref C_BadNode) (.ref C_BadNode) = some true)
    (k_BadNode_ValueError : PySem.W.kitOne K (.ref C_BadNode) (.type "ValueError") = some true)
    (e_ao : cd_all_of = .ref c_ao) :
    ∃ fd : FuncData, (∀ (s : Shared) (v : Value), BindsTo s fd ⟨[v], []⟩ [("_law_script", v)]) ∧ ∀ base : Heap, K.In base → base.Ns mainGlobals mg → (∀ p ∈ [(c_ao, P_ao)], LamX.TabB base mg p.1 p.2) → FnOk l.prog w K mg base CX0 14 fa fd ["_law_script"] (spLaw K P_ao) := by
  have e := hfa.symm.trans (PySem.W.mg_of X G a_law)
  have e2 : f_law = fa := by
    cases e
    rfl
  subst e2
  subst e_ao
  let T : Txt K mg := {
    f_parts_kept := f_parts_kept, fd_parts_kept := _, F_parts_kept := fun_mk (st := s_parts_kept) l_parts_kept c_parts_kept k_parts_kept, b_parts_kept := (fun_mk (st := s_parts_kept) l_parts_kept c_parts_kept k_parts_kept).binds (ps := ["op", "parts"]) fun _ _ _ _ _ _ us hl => match us, hl with | [_, _], _ => rfl, g_parts_kept := PySem.W.mg_of X G a_parts_kept,
    f_sort_made := f_sort_made, fd_sort_made := _, F_sort_made := fun_mk (st := s_sort_made) l_sort_made c_sort_made k_sort_made, b_sort_made := (fun_mk (st := s_sort_made) l_sort_made c_sort_made k_sort_made).binds (ps := ["signature", "op", "value", "sorts"]) fun _ _ _ _ _ _ us hl => match us, hl with | [_, _, _, _], _ => rfl, g_sort_made := PySem.W.mg_of X G a_sort_made,
    f_sum_fits := f_sum_fits, fd_sum_fits := _, F_sum_fits := fun_mk (st := s_sum_fits) l_sum_fits c_sum_fits k_sum_fits, b_sum_fits := (fun_mk (st := s_sum_fits) l_sum_fits c_sum_fits k_sum_fits).binds (ps := ["op", "sorts"]) fun _ _ _ _ _ _ us hl => match us, hl with | [_, _], _ => rfl, g_sum_fits := PySem.W.mg_of X G a_sum_fits,
    f_connective_fits := f_connective_fits, fd_connective_fits := _, F_connective_fits := fun_mk (st := s_connective_fits) l_connective_fits c_connective_fits k_connective_fits, b_connective_fits := (fun_mk (st := s_connective_fits) l_connective_fits c_connective_fits k_connective_fits).binds (ps := ["op", "sorts"]) fun _ _ _ _ _ _ us hl => match us, hl with | [_, _], _ => rfl, g_connective_fits := PySem.W.mg_of X G a_connective_fits,
    f_comparison_fits := f_comparison_fits, fd_comparison_fits := _, F_comparison_fits := fun_mk (st := s_comparison_fits) l_comparison_fits c_comparison_fits k_comparison_fits, b_comparison_fits := (fun_mk (st := s_comparison_fits) l_comparison_fits c_comparison_fits k_comparison_fits).binds (ps := ["op", "sorts"]) fun _ _ _ _ _ _ us hl => match us, hl with | [_, _], _ => rfl, g_comparison_fits := PySem.W.mg_of X G a_comparison_fits,
    f_all_of := f_all_of, fd_all_of := _, F_all_of := fun_mk (st := s_all_of) l_all_of c_all_of k_all_of, b_all_of := (fun_mk (st := s_all_of) l_all_of c_all_of k_all_of).binds (ps := ["sorts", "wanted"]) fun _ _ _ _ _ _ us hl => match us, hl with | [_, _], _ => rfl, g_all_of := PySem.W.mg_of X G a_all_of,
    f_is_name := f_is_name, fd_is_name := _, F_is_name := fun_mk (st := s_is_name) l_is_name c_is_name k_is_name, b_is_name := (fun_mk (st := s_is_name) l_is_name c_is_name k_is_name).binds (ps := ["text"]) fun _ _ _ _ _ _ us hl => match us, hl with | [_], _ => rfl, g_is_name := PySem.W.mg_of X G a_is_name,
    f_pool := f_pool, fd_pool := _, F_pool := fun_mk (st := s_pool) l_pool c_pool k_pool, b_pool := (fun_mk (st := s_pool) l_pool c_pool k_pool).binds (ps := ["_law_script", "_law_k"]) fun _ _ _ _ _ _ us hl => match us, hl with | [_, _], _ => rfl, g_pool := PySem.W.mg_of X G a_pool,
    f_take := f_take, fd_take := _, F_take := fun_mk (st := s_take) l_take c_take k_take, b_take := (fun_mk (st := s_take) l_take c_take k_take).binds (ps := ["_law_pool_here", "_law_size"]) fun _ _ _ _ _ _ us hl => match us, hl with | [_, _], _ => rfl, g_take := PySem.W.mg_of X G a_take,
    f_word := f_word, fd_word := _, F_word := fun_mk (st := s_word) l_word c_word k_word, b_word := (fun_mk (st := s_word) l_word c_word k_word).binds (ps := ["_law_pool_here", "_law_place"]) fun _ _ _ _ _ _ us hl => match us, hl with | [_, _], _ => rfl, g_word := PySem.W.mg_of X G a_word,
    f_world := f_world, fd_world := _, F_world := fun_mk (st := s_world) l_world c_world k_world, b_world := (fun_mk (st := s_world) l_world c_world k_world).binds (ps := ["_law_pool_here"]) fun _ _ _ _ _ _ us hl => match us, hl with | [_], _ => rfl, g_world := PySem.W.mg_of X G a_world,
    f_number := f_number, fd_number := _, F_number := fun_mk (st := s_number) l_number c_number k_number, b_number := (fun_mk (st := s_number) l_number c_number k_number).binds (ps := ["_law_pool_here"]) fun _ _ _ _ _ _ us hl => match us, hl with | [_], _ => rfl, g_number := PySem.W.mg_of X G a_number,
    f_lowest := f_lowest, fd_lowest := _, F_lowest := fun_mk (st := s_lowest) l_lowest c_lowest k_lowest, b_lowest := (fun_mk (st := s_lowest) l_lowest c_lowest k_lowest).binds (ps := ["_law_p", "_law_q"]) fun _ _ _ _ _ _ us hl => match us, hl with | [_, _], _ => rfl, g_lowest := PySem.W.mg_of X G a_lowest,
    f_wide := f_wide, fd_wide := _, F_wide := fun_mk (st := s_wide) l_wide c_wide k_wide, b_wide := (fun_mk (st := s_wide) l_wide c_wide k_wide).binds (ps := ["_law_pool_here", "_law_world_here"]) fun _ _ _ _ _ _ us hl => match us, hl with | [_, _], _ => rfl, g_wide := PySem.W.mg_of X G a_wide,
    f_large := f_large, fd_large := _, F_large := fun_mk (st := s_large) l_large c_large k_large, b_large := (fun_mk (st := s_large) l_large c_large k_large).binds (ps := ["_law_pool_here"]) fun _ _ _ _ _ _ us hl => match us, hl with | [_], _ => rfl, g_large := PySem.W.mg_of X G a_large,
    f_kind := f_kind, fd_kind := _, F_kind := fun_mk (st := s_kind) l_kind c_kind k_kind, b_kind := (fun_mk (st := s_kind) l_kind c_kind k_kind).binds (ps := ["_law_pool_here", "_law_world_here"]) fun _ _ _ _ _ _ us hl => match us, hl with | [_, _], _ => rfl, g_kind := PySem.W.mg_of X G a_kind,
    f_some := f_some, fd_some := _, F_some := fun_mk (st := s_some) l_some c_some k_some, b_some := (fun_mk (st := s_some) l_some c_some k_some).binds (ps := ["_law_pool_here", "_law_sorts", "_law_sort"]) fun _ _ _ _ _ _ us hl => match us, hl with | [_, _, _], _ => rfl, g_some := PySem.W.mg_of X G a_some,
    f_making := f_making, fd_making := _, F_making := fun_mk (st := s_making) l_making c_making k_making, b_making := (fun_mk (st := s_making) l_making c_making k_making).binds (ps := ["_law_pool_here", "_law_world_here", "_law_sorts"]) fun _ _ _ _ _ _ us hl => match us, hl with | [_, _, _], _ => rfl, g_making := PySem.W.mg_of X G a_making,
    f_again := f_again, fd_again := _, F_again := fun_mk (st := s_again) l_again c_again k_again, b_again := (fun_mk (st := s_again) l_again c_again k_again).binds (ps := ["_law_pool_here", "_law_rows"]) fun _ _ _ _ _ _ us hl => match us, hl with | [_, _], _ => rfl, g_again := PySem.W.mg_of X G a_again,
    f_node := f_node, fd_node := _, F_node := fun_mk (st := s_node) l_node c_node k_node, b_node := (fun_mk (st := s_node) l_node c_node k_node).binds (ps := ["_law_making_here"]) fun _ _ _ _ _ _ us hl => match us, hl with | [_], _ => rfl, g_node := PySem.W.mg_of X G a_node,
    f_node_sort := f_node_sort, fd_node_sort := _, F_node_sort := fun_mk (st := s_node_sort) l_node_sort c_node_sort k_node_sort, b_node_sort := (fun_mk (st := s_node_sort) l_node_sort c_node_sort k_node_sort).binds (ps := ["_law_world_here", "_law_making_here", "_law_sorts"]) fun _ _ _ _ _ _ us hl => match us, hl with | [_, _, _], _ => rfl, g_node_sort := PySem.W.mg_of X G a_node_sort,
    f_whole := f_whole, fd_whole := _, F_whole := fun_mk (st := s_whole) l_whole c_whole k_whole, b_whole := (fun_mk (st := s_whole) l_whole c_whole k_whole).binds (ps := ["_law_value"]) fun _ _ _ _ _ _ us hl => match us, hl with | [_], _ => rfl, g_whole := PySem.W.mg_of X G a_whole,
    f_alike := f_alike, fd_alike := _, F_alike := fun_mk (st := s_alike) l_alike c_alike k_alike, b_alike := (fun_mk (st := s_alike) l_alike c_alike k_alike).binds (ps := ["_law_told", "_law_due"]) fun _ _ _ _ _ _ us hl => match us, hl with | [_, _], _ => rfl, g_alike := PySem.W.mg_of X G a_alike,
    f_asked := f_asked, fd_asked := _, F_asked := fun_mk (st := s_asked) l_asked c_asked k_asked, b_asked := (fun_mk (st := s_asked) l_asked c_asked k_asked).binds (ps := ["_law_bank", "_law_number_here", "_law_way"]) fun _ _ _ _ _ _ us hl => match us, hl with | [_, _, _], _ => rfl, g_asked := PySem.W.mg_of X G a_asked,
    f_refused := f_refused, fd_refused := _, F_refused := fun_mk (st := s_refused) l_refused c_refused k_refused, b_refused := (fun_mk (st := s_refused) l_refused c_refused k_refused).binds (ps := ["_law_bank", "_law_number_here", "_law_way"]) fun _ _ _ _ _ _ us hl => match us, hl with | [_, _, _], _ => rfl, g_refused := PySem.W.mg_of X G a_refused,
    f_refused_by_base := f_refused_by_base, fd_refused_by_base := _, F_refused_by_base := fun_mk (st := s_refused_by_base) l_refused_by_base c_refused_by_base k_refused_by_base, b_refused_by_base := (fun_mk (st := s_refused_by_base) l_refused_by_base c_refused_by_base k_refused_by_base).binds (ps := ["_law_bank", "_law_number_here", "_law_way"]) fun _ _ _ _ _ _ us hl => match us, hl with | [_, _, _], _ => rfl, g_refused_by_base := PySem.W.mg_of X G a_refused_by_base,
    f_at := f_at, fd_at := _, F_at := fun_mk (st := s_at) l_at c_at k_at, b_at := (fun_mk (st := s_at) l_at c_at k_at).binds (ps := ["_law_bank", "_law_model", "_law_number_here"]) fun _ _ _ _ _ _ us hl => match us, hl with | [_, _, _], _ => rfl, g_at := PySem.W.mg_of X G a_at,
    f_step := f_step, fd_step := _, F_step := fun_mk (st := s_step) l_step c_step k_step, b_step := (fun_mk (st := s_step) l_step c_step k_step).binds (ps := ["_law_pool_here", "_law_world_here", "_law_bank", "_law_model", "_law_making_here"]) fun _ _ _ _ _ _ us hl => match us, hl with | [_, _, _, _, _], _ => rfl, g_step := PySem.W.mg_of X G a_step,
    f_end := f_end, fd_end := _, F_end := fun_mk (st := s_end) l_end c_end k_end, b_end := (fun_mk (st := s_end) l_end c_end k_end).binds (ps := ["_law_pool_here", "_law_bank", "_law_model"]) fun _ _ _ _ _ _ us hl => match us, hl with | [_, _, _], _ => rfl, g_end := PySem.W.mg_of X G a_end,
    f_law := f_law, fd_law := _, F_law := fun_mk (st := s_law) l_law c_law k_law, b_law := (fun_mk (st := s_law) l_law c_law k_law).binds (ps := ["_law_script"]) fun _ _ _ _ _ _ us hl => match us, hl with | [_], _ => rfl, g_law := PySem.W.mg_of X G a_law,
    m_len := PySem.W.mg_none_of X G m_len,
    m_int := PySem.W.mg_none_of X G m_int,
    m_abs := PySem.W.mg_none_of X G m_abs,
    m_min := PySem.W.mg_none_of X G m_min,
    m_max := PySem.W.mg_none_of X G m_max,
    m_isinstance := PySem.W.mg_none_of X G m_isinstance,
    m_range := PySem.W.mg_none_of X G m_range,
    m_bool := PySem.W.mg_none_of X G m_bool,
    m_str := PySem.W.mg_none_of X G m_str,
    m_list := PySem.W.mg_none_of X G m_list,
    m_tuple := PySem.W.mg_none_of X G m_tuple,
    m_sorted := PySem.W.mg_none_of X G m_sorted,
    m_all := PySem.W.mg_none_of X G m_all,
    m_ValueError := PySem.W.mg_none_of X G m_ValueError,
    m_iter := PySem.W.mg_none_of X G m_iter,
    C_BadNode := C_BadNode, c_BadNode := PySem.W.mg_of X G n_BadNode,
    C_PaperError := C_PaperError, c_PaperError := PySem.W.mg_of X G n_PaperError,
    C_BadModel := C_BadModel, c_BadModel := PySem.W.mg_of X G n_BadModel,
    C_BadName := C_BadName, c_BadName := PySem.W.mg_of X G n_BadName,
    C_BadLiteral := C_BadLiteral, c_BadLiteral := PySem.W.mg_of X G n_BadLiteral,
    C_BadRatio := C_BadRatio, c_BadRatio := PySem.W.mg_of X G n_BadRatio,
    C_BadSort := C_BadSort, c_BadSort := PySem.W.mg_of X G n_BadSort,
    C_BadText := C_BadText, c_BadText := PySem.W.mg_of X G n_BadText,
    C_NameTaken := C_NameTaken, c_NameTaken := PySem.W.mg_of X G n_NameTaken,
    C_NoAnswer := C_NoAnswer, c_NoAnswer := PySem.W.mg_of X G n_NoAnswer,
    C_NoLevel := C_NoLevel, c_NoLevel := PySem.W.mg_of X G n_NoLevel,
    C_UnknownName := C_UnknownName, c_UnknownName := PySem.W.mg_of X G n_UnknownName,
    f_BadNode_init := f_BadNode_init, fd_BadNode_init := _, F_BadNode_init := fun_mk (st := s_BadNode_init) l_BadNode_init c_BadNode_init k_BadNode_init, b_BadNode_init := (fun_mk (st := s_BadNode_init) l_BadNode_init c_BadNode_init k_BadNode_init).binds (ps := ["self", "number"]) fun _ _ _ _ _ _ us hl => match us, hl with | [_, _], _ => rfl,
    f_Bank_init := f_Bank_init, fd_Bank_init := _, F_Bank_init := fun_mk (st := s_Bank_init) l_Bank_init c_Bank_init k_Bank_init, b_Bank_init := (fun_mk (st := s_Bank_init) l_Bank_init c_Bank_init k_Bank_init).binds (ps := ["self", "signature"]) fun _ _ _ _ _ _ us hl => match us, hl with | [_, _], _ => rfl,
    f_Bank_make := f_Bank_make, fd_Bank_make := _, F_Bank_make := fun_mk (st := s_Bank_make) l_Bank_make c_Bank_make k_Bank_make, b_Bank_make := (fun_mk (st := s_Bank_make) l_Bank_make c_Bank_make k_Bank_make).binds (ps := ["self", "op", "value", "parts"]) fun _ _ _ _ _ _ us hl => match us, hl with | [_, _, _, _], _ => rfl,
    f_Bank_seek := f_Bank_seek, fd_Bank_seek := _, F_Bank_seek := fun_mk (st := s_Bank_seek) l_Bank_seek c_Bank_seek k_Bank_seek, b_Bank_seek := (fun_mk (st := s_Bank_seek) l_Bank_seek c_Bank_seek k_Bank_seek).binds (ps := ["self", "op", "value", "parts"]) fun _ _ _ _ _ _ us hl => match us, hl with | [_, _, _, _], _ => rfl,
    f_Bank_node := f_Bank_node, fd_Bank_node := _, F_Bank_node := fun_mk (st := s_Bank_node) l_Bank_node c_Bank_node k_Bank_node, b_Bank_node := (fun_mk (st := s_Bank_node) l_Bank_node c_Bank_node k_Bank_node).binds (ps := ["self", "number"]) fun _ _ _ _ _ _ us hl => match us, hl with | [_, _], _ => rfl,
    f_Bank_sort_of := f_Bank_sort_of, fd_Bank_sort_of := _, F_Bank_sort_of := fun_mk (st := s_Bank_sort_of) l_Bank_sort_of c_Bank_sort_of k_Bank_sort_of, b_Bank_sort_of := (fun_mk (st := s_Bank_sort_of) l_Bank_sort_of c_Bank_sort_of k_Bank_sort_of).binds (ps := ["self", "number"]) fun _ _ _ _ _ _ us hl => match us, hl with | [_, _], _ => rfl,
    f_Bank_has := f_Bank_has, fd_Bank_has := _, F_Bank_has := fun_mk (st := s_Bank_has) l_Bank_has c_Bank_has k_Bank_has, b_Bank_has := (fun_mk (st := s_Bank_has) l_Bank_has c_Bank_has k_Bank_has).binds (ps := ["self", "number"]) fun _ _ _ _ _ _ us hl => match us, hl with | [_, _], _ => rfl,
    f_Bank_len := f_Bank_len, fd_Bank_len := _, F_Bank_len := fun_mk (st := s_Bank_len) l_Bank_len c_Bank_len k_Bank_len, b_Bank_len := (fun_mk (st := s_Bank_len) l_Bank_len c_Bank_len k_Bank_len).binds (ps := ["self"]) fun _ _ _ _ _ _ us hl => match us, hl with | [_], _ => rfl,
    f_Bank_iter := f_Bank_iter, fd_Bank_iter := _, F_Bank_iter := fun_mk (st := s_Bank_iter) l_Bank_iter c_Bank_iter k_Bank_iter, b_Bank_iter := (fun_mk (st := s_Bank_iter) l_Bank_iter c_Bank_iter k_Bank_iter).binds (ps := ["self"]) fun _ _ _ _ _ _ us hl => match us, hl with | [_], _ => rfl,
    f_Signature_init := f_Signature_init, fd_Signature_init := _, F_Signature_init := fun_mk (st := s_Signature_init) l_Signature_init c_Signature_init k_Signature_init, b_Signature_init := (fun_mk (st := s_Signature_init) l_Signature_init c_Signature_init k_Signature_init).binds (ps := ["self"]) fun _ _ _ _ _ _ us hl => match us, hl with | [_], _ => rfl,
    f_Signature_declare_sort := f_Signature_declare_sort, fd_Signature_declare_sort := _, F_Signature_declare_sort := fun_mk (st := s_Signature_declare_sort) l_Signature_declare_sort c_Signature_declare_sort k_Signature_declare_sort, b_Signature_declare_sort := (fun_mk (st := s_Signature_declare_sort) l_Signature_declare_sort c_Signature_declare_sort k_Signature_declare_sort).binds (ps := ["self", "name"]) fun _ _ _ _ _ _ us hl => match us, hl with | [_, _], _ => rfl,
    f_Signature_declare_function := f_Signature_declare_function, fd_Signature_declare_function := _, F_Signature_declare_function := fun_mk (st := s_Signature_declare_function) l_Signature_declare_function c_Signature_declare_function k_Signature_declare_function, b_Signature_declare_function := (fun_mk (st := s_Signature_declare_function) l_Signature_declare_function c_Signature_declare_function k_Signature_declare_function).binds (ps := ["self", "name", "arguments", "result"]) fun _ _ _ _ _ _ us hl => match us, hl with | [_, _, _, _], _ => rfl,
    f_Signature_functions := f_Signature_functions, fd_Signature_functions := _, F_Signature_functions := fun_mk (st := s_Signature_functions) l_Signature_functions c_Signature_functions k_Signature_functions, b_Signature_functions := (fun_mk (st := s_Signature_functions) l_Signature_functions c_Signature_functions k_Signature_functions).binds (ps := ["self"]) fun _ _ _ _ _ _ us hl => match us, hl with | [_], _ => rfl,
    f_Signature_knows_sort := f_Signature_knows_sort, fd_Signature_knows_sort := _, F_Signature_knows_sort := fun_mk (st := s_Signature_knows_sort) l_Signature_knows_sort c_Signature_knows_sort k_Signature_knows_sort, b_Signature_knows_sort := (fun_mk (st := s_Signature_knows_sort) l_Signature_knows_sort c_Signature_knows_sort k_Signature_knows_sort).binds (ps := ["self", "name"]) fun _ _ _ _ _ _ us hl => match us, hl with | [_, _], _ => rfl,
    f_Signature_knows_function := f_Signature_knows_function, fd_Signature_knows_function := _, F_Signature_knows_function := fun_mk (st := s_Signature_knows_function) l_Signature_knows_function c_Signature_knows_function k_Signature_knows_function, b_Signature_knows_function := (fun_mk (st := s_Signature_knows_function) l_Signature_knows_function c_Signature_knows_function k_Signature_knows_function).binds (ps := ["self", "name"]) fun _ _ _ _ _ _ us hl => match us, hl with | [_, _], _ => rfl,
    f_Signature_arguments_of := f_Signature_arguments_of, fd_Signature_arguments_of := _, F_Signature_arguments_of := fun_mk (st := s_Signature_arguments_of) l_Signature_arguments_of c_Signature_arguments_of k_Signature_arguments_of, b_Signature_arguments_of := (fun_mk (st := s_Signature_arguments_of) l_Signature_arguments_of c_Signature_arguments_of k_Signature_arguments_of).binds (ps := ["self", "name"]) fun _ _ _ _ _ _ us hl => match us, hl with | [_, _], _ => rfl,
    f_Signature_result_of := f_Signature_result_of, fd_Signature_result_of := _, F_Signature_result_of := fun_mk (st := s_Signature_result_of) l_Signature_result_of c_Signature_result_of k_Signature_result_of, b_Signature_result_of := (fun_mk (st := s_Signature_result_of) l_Signature_result_of c_Signature_result_of k_Signature_result_of).binds (ps := ["self", "name"]) fun _ _ _ _ _ _ us hl => match us, hl with | [_, _], _ => rfl,
    f_Signature_function := f_Signature_function, fd_Signature_function := _, F_Signature_function := fun_mk (st := s_Signature_function) l_Signature_function c_Signature_function k_Signature_function, b_Signature_function := (fun_mk (st := s_Signature_function) l_Signature_function c_Signature_function k_Signature_function).binds (ps := ["self", "name"]) fun _ _ _ _ _ _ us hl => match us, hl with | [_, _], _ => rfl,
    f_Signature_refuse_name := f_Signature_refuse_name, fd_Signature_refuse_name := _, F_Signature_refuse_name := fun_mk (st := s_Signature_refuse_name) l_Signature_refuse_name c_Signature_refuse_name k_Signature_refuse_name, b_Signature_refuse_name := (fun_mk (st := s_Signature_refuse_name) l_Signature_refuse_name c_Signature_refuse_name k_Signature_refuse_name).binds (ps := ["self", "name"]) fun _ _ _ _ _ _ us hl => match us, hl with | [_, _], _ => rfl,
    C_Signature := C_Signature, c_Signature := PySem.W.mg_of X G n_Signature, cl_Signature := ⟨pg_Signature, hd_Signature, po_Signature, sa_Signature⟩, mk_Signature := ⟨mk_Signature, a_Signature_init, beq_iff_eq.mpr i_Signature_init, kc_Signature⟩,
    n_Signature__sorts := nf_Signature__sorts,
    n_Signature__functions := nf_Signature__functions,
    M_Signature_init := ⟨a_Signature_init, beq_iff_eq.mpr i_Signature_init, k_Signature_init⟩,
    M_Signature_declare_sort := ⟨a_Signature_declare_sort, beq_iff_eq.mpr i_Signature_declare_sort, k_Signature_declare_sort⟩,
    M_Signature_declare_function := ⟨a_Signature_declare_function, beq_iff_eq.mpr i_Signature_declare_function, k_Signature_declare_function⟩,
    M_Signature_functions := ⟨a_Signature_functions, beq_iff_eq.mpr i_Signature_functions, k_Signature_functions⟩,
    M_Signature_knows_sort := ⟨a_Signature_knows_sort, beq_iff_eq.mpr i_Signature_knows_sort, k_Signature_knows_sort⟩,
    M_Signature_knows_function := ⟨a_Signature_knows_function, beq_iff_eq.mpr i_Signature_knows_function, k_Signature_knows_function⟩,
    M_Signature_arguments_of := ⟨a_Signature_arguments_of, beq_iff_eq.mpr i_Signature_arguments_of, k_Signature_arguments_of⟩,
    M_Signature_result_of := ⟨a_Signature_result_of, beq_iff_eq.mpr i_Signature_result_of, k_Signature_result_of⟩,
    M_Signature_function := ⟨a_Signature_function, beq_iff_eq.mpr i_Signature_function, k_Signature_function⟩,
    M_Signature_refuse_name := ⟨a_Signature_refuse_name, beq_iff_eq.mpr i_Signature_refuse_name, k_Signature_refuse_name⟩,
    C_Bank := C_Bank, c_Bank := PySem.W.mg_of X G n_Bank, cl_Bank := ⟨pg_Bank, hd_Bank, po_Bank, sa_Bank⟩, mk_Bank := ⟨mk_Bank, a_Bank_init, beq_iff_eq.mpr i_Bank_init, kc_Bank⟩,
    n_Bank_signature := nf_Bank_signature,
    n_Bank__nodes := nf_Bank__nodes,
    n_Bank__sorts := nf_Bank__sorts,
    n_Bank__numbers := nf_Bank__numbers,
    M_Bank_init := ⟨a_Bank_init, beq_iff_eq.mpr i_Bank_init, k_Bank_init⟩,
    M_Bank_make := ⟨a_Bank_make, beq_iff_eq.mpr i_Bank_make, k_Bank_make⟩,
    M_Bank_seek := ⟨a_Bank_seek, beq_iff_eq.mpr i_Bank_seek, k_Bank_seek⟩,
    M_Bank_node := ⟨a_Bank_node, beq_iff_eq.mpr i_Bank_node, k_Bank_node⟩,
    M_Bank_sort_of := ⟨a_Bank_sort_of, beq_iff_eq.mpr i_Bank_sort_of, k_Bank_sort_of⟩,
    M_Bank_has := ⟨a_Bank_has, beq_iff_eq.mpr i_Bank_has, k_Bank_has⟩,
    M_Bank_len := ⟨a_Bank_len, beq_iff_eq.mpr i_Bank_len, k_Bank_len⟩,
    M_Bank_iter := ⟨a_Bank_iter, beq_iff_eq.mpr i_Bank_iter, k_Bank_iter⟩,
    ln_Bank := ⟨a_Bank_len, i_Bank_len⟩,
    it_Bank := ⟨a_Bank_iter, beq_iff_eq.mpr i_Bank_iter, a_Bank_len, i_Bank_len⟩,
    A_OPS := A_OPS, g_OPS := PySem.W.mg_of X G nz_OPS,
    A_RESERVED := A_RESERVED, g_RESERVED := PySem.W.mg_of X G nz_RESERVED,
    A_BASE_SORTS := A_BASE_SORTS, g_BASE_SORTS := PySem.W.mg_of X G nz_BASE_SORTS,
    A_CONNECTIVES := A_CONNECTIVES, g_CONNECTIVES := PySem.W.mg_of X G nz_CONNECTIVES,
    A_LEAF_SORTS := A_LEAF_SORTS, g_LEAF_SORTS := PySem.W.mg_of X G nz_LEAF_SORTS,
    A_SUMS := A_SUMS, g_SUMS := PySem.W.mg_of X G nz_SUMS,
    z_OPS := fun H => .inr ⟨_, _, nn_OPS, zl_OPS, rfl, rfl, (by show 17 ≤ sizeLine; decide), .cons ⟨_, rfl⟩ (.cons ⟨_, rfl⟩ (.cons ⟨_, rfl⟩ (.cons ⟨_, rfl⟩ (.cons ⟨_, rfl⟩ (.cons ⟨_, rfl⟩ (.cons ⟨_, rfl⟩ (.cons ⟨_, rfl⟩ (.cons ⟨_, rfl⟩ (.cons ⟨_, rfl⟩ (.cons ⟨_, rfl⟩ (.cons ⟨_, rfl⟩ (.cons ⟨_, rfl⟩ (.cons ⟨_, rfl⟩ (.cons ⟨_, rfl⟩ (.cons ⟨_, rfl⟩ (.cons ⟨_, rfl⟩ (.nil)))))))))))))))))⟩,
    z_RESERVED := fun H => .inr ⟨_, _, nn_RESERVED, zl_RESERVED, rfl, rfl, (by show 12 ≤ sizeLine; decide), .cons ⟨_, rfl⟩ (.cons ⟨_, rfl⟩ (.cons ⟨_, rfl⟩ (.cons ⟨_, rfl⟩ (.cons ⟨_, rfl⟩ (.cons ⟨_, rfl⟩ (.cons ⟨_, rfl⟩ (.cons ⟨_, rfl⟩ (.cons ⟨_, rfl⟩ (.cons ⟨_, rfl⟩ (.cons ⟨_, rfl⟩ (.cons ⟨_, rfl⟩ (.nil))))))))))))⟩,
    z_BASE_SORTS := fun H => .inr ⟨_, _, nn_BASE_SORTS, zl_BASE_SORTS, rfl, rfl, (by show 3 ≤ sizeLine; decide), .cons ⟨_, rfl⟩ (.cons ⟨_, rfl⟩ (.cons ⟨_, rfl⟩ (.nil)))⟩,
    z_CONNECTIVES := fun H => .inr ⟨_, _, nn_CONNECTIVES, zl_CONNECTIVES, rfl, rfl, (by show 4 ≤ sizeLine; decide), .cons ⟨_, rfl⟩ (.cons ⟨_, rfl⟩ (.cons ⟨_, rfl⟩ (.cons ⟨_, rfl⟩ (.nil))))⟩,
    n_LEAF_SORTS := List.forall_mem_cons.mpr ⟨⟨_, nd_LEAF_SORTS_0⟩, List.forall_mem_cons.mpr ⟨⟨_, nd_LEAF_SORTS_1⟩, List.forall_mem_cons.mpr ⟨⟨_, nd_LEAF_SORTS_2⟩, List.forall_mem_cons.mpr ⟨⟨_, nd_LEAF_SORTS_3⟩, fun _ h => nomatch h⟩⟩⟩⟩,
    n_SUMS := List.forall_mem_cons.mpr ⟨⟨_, nd_SUMS_0⟩, List.forall_mem_cons.mpr ⟨⟨_, nd_SUMS_1⟩, List.forall_mem_cons.mpr ⟨⟨_, nd_SUMS_2⟩, fun _ h => nomatch h⟩⟩⟩,
    m_LEAF_SORTS := List.forall_mem_cons.mpr ⟨mm_LEAF_SORTS_0, List.forall_mem_cons.mpr ⟨mm_LEAF_SORTS_1, List.forall_mem_cons.mpr ⟨mm_LEAF_SORTS_2, List.forall_mem_cons.mpr ⟨mm_LEAF_SORTS_3, List.forall_mem_cons.mpr ⟨mm_LEAF_SORTS_4, List.forall_mem_cons.mpr ⟨mm_LEAF_SORTS_5, List.forall_mem_cons.mpr ⟨mm_LEAF_SORTS_6, List.forall_mem_cons.mpr ⟨mm_LEAF_SORTS_7, List.forall_mem_cons.mpr ⟨mm_LEAF_SORTS_8, List.forall_mem_cons.mpr ⟨mm_LEAF_SORTS_9, List.forall_mem_cons.mpr ⟨mm_LEAF_SORTS_10, List.forall_mem_cons.mpr ⟨mm_LEAF_SORTS_11, List.forall_mem_cons.mpr ⟨mm_LEAF_SORTS_12, fun _ h => nomatch h⟩⟩⟩⟩⟩⟩⟩⟩⟩⟩⟩⟩⟩,
    m_SUMS := List.forall_mem_cons.mpr ⟨mm_SUMS_0, List.forall_mem_cons.mpr ⟨mm_SUMS_1, List.forall_mem_cons.mpr ⟨mm_SUMS_2, List.forall_mem_cons.mpr ⟨mm_SUMS_3, List.forall_mem_cons.mpr ⟨mm_SUMS_4, List.forall_mem_cons.mpr ⟨mm_SUMS_5, List.forall_mem_cons.mpr ⟨mm_SUMS_6, List.forall_mem_cons.mpr ⟨mm_SUMS_7, List.forall_mem_cons.mpr ⟨mm_SUMS_8, List.forall_mem_cons.mpr ⟨mm_SUMS_9, List.forall_mem_cons.mpr ⟨mm_SUMS_10, List.forall_mem_cons.mpr ⟨mm_SUMS_11, List.forall_mem_cons.mpr ⟨mm_SUMS_12, List.forall_mem_cons.mpr ⟨mm_SUMS_13, fun _ h => nomatch h⟩⟩⟩⟩⟩⟩⟩⟩⟩⟩⟩⟩⟩⟩,
    xb_PaperError := ⟨rd_PaperError, ga_PaperError, vi_PaperError⟩,
    xo_BadNode := ⟨⟨⟨nm_BadNode, q_BadNode, N_BadNode, bs_BadNode, _, sn_BadNode, sub_BadNode, ab_BadNode, col_BadNode, dd_BadNode, m0_BadNode, m1_BadNode, m2_BadNode, m3_BadNode, m5_BadNode, xL_BadNode, by first | (unfold PySem.HandSPX.refsVE; decide +kernel) | rfl⟩, sa_BadNode, eC_BadNode, tC_BadNode, kC_BadNode⟩, ⟨hg_BadNode, hk_BadNode, eC_BadNode, hd_BadNode, ha_BadNode, x_hn, x_ht, hm_BadNode⟩, no_BadNode, a_BadNode_init, i_BadNode_init⟩,
    e_BadNode_BadNode := e_BadNode_BadNode,
    e_BadNode_PaperError := e_BadNode_PaperError,
    k_BadNode_BadModel := k_BadNode_BadModel,
    k_BadNode_BadName := k_BadNode_BadName,
    k_BadNode_BadLiteral := k_BadNode_BadLiteral,
    k_BadNode_BadRatio := k_BadNode_BadRatio,
    k_BadNode_BadSort := k_BadNode_BadSort,
    k_BadNode_BadText := k_BadNode_BadText,
    k_BadNode_NameTaken := k_BadNode_NameTaken,
    k_BadNode_NoAnswer := k_BadNode_NoAnswer,
    k_BadNode_NoLevel := k_BadNode_NoLevel,
    k_BadNode_UnknownName := k_BadNode_UnknownName,
    k_BadNode_BadNode := k_BadNode_BadNode,
    k_BadNode_ValueError := k_BadNode_ValueError,
    FT_ao := ⟨_, _, _, _, _, _, _, _, rfl, l_all_of, c_all_of⟩,
    c_ao := c_ao,
    P_ao := P_ao }
  exact ⟨PySem.W.fnOf "law" "law" (defArgs s_law) (defBody s_law) (defScope s_law) .none kV_law dc_law pm_law an_law cd_law ct_law, fun s v => .of_eq rfl, fun base _ _ TB => ok_law T ⟨⟨_, _, kd_LEAF_SORTS, kl_LEAF_SORTS, ko_LEAF_SORTS⟩, ⟨_, _, kd_SUMS, kl_SUMS, ko_SUMS⟩⟩ (by
    have t : LamX.TabB base mg c_ao P_ao := TB (c_ao, P_ao) List.mem_cons_self
    exact ⟨t.code, t.bm, t.gP⟩)⟩
end L

open PySem PySem.W PyProof.Rows
local macro_rules | `(tactic| o_head ($f:ident $k $a $e)) => `(tactic| o_head (PySem.W.kmHook $k $a $e [324]))
set_option maxHeartbeats 0 in
theorem PySem.Challenge.cw_papersat_k06_bank_makes_once_holds : PySem.Challenge.rw_papersat_k06_bank_makes_once.Holds := by
  w_on; o_law; k_head; (case hw => w_witness2)
  k_fill
  refine LamX.walk_ofTs (l := PySem.Challenge.rw_papersat_k06_bank_makes_once) (n := 63) (k := 14) (x := "_law_script") (CX := fun _ => L2.CX0) rfl (by decide) rfl ⟨rfl, by decide, by decide⟩ (fun w h Y => PySem.W.km_in_of Y) ?F (fun _ _ _ _ _ h => h)
  case F =>
    intro w mg fa h Y KX G hmg
    have hT8 := PySem.W.km_tabs_of Y
    clear Y
    refine' (fun key => ?main) (L.all_mk (l := PySem.Challenge.rw_papersat_k06_bank_makes_once) (w := w) (P_ao := 324) KX G hmg ?a_parts_kept ?l_parts_kept ?c_parts_kept ?k_parts_kept ?a_sort_made ?l_sort_made ?c_sort_made ?k_sort_made ?a_sum_fits ?l_sum_fits ?c_sum_fits ?k_sum_fits ?a_connective_fits ?l_connective_fits ?c_connective_fits ?k_connective_fits ?a_comparison_fits ?l_comparison_fits ?c_comparison_fits ?k_comparison_fits ?a_all_of ?l_all_of ?c_all_of ?k_all_of ?a_is_name ?l_is_name ?c_is_name ?k_is_name ?a_pool ?l_pool ?c_pool ?k_pool ?a_take ?l_take ?c_take ?k_take ?a_word ?l_word ?c_word ?k_word ?a_world ?l_world ?c_world ?k_world ?a_number ?l_number ?c_number ?k_number ?a_lowest ?l_lowest ?c_lowest ?k_lowest ?a_wide ?l_wide ?c_wide ?k_wide ?a_large ?l_large ?c_large ?k_large ?a_kind ?l_kind ?c_kind ?k_kind ?a_some ?l_some ?c_some ?k_some ?a_making ?l_making ?c_making ?k_making ?a_again ?l_again ?c_again ?k_again ?a_node ?l_node ?c_node ?k_node ?a_node_sort ?l_node_sort ?c_node_sort ?k_node_sort ?a_whole ?l_whole ?c_whole ?k_whole ?a_alike ?l_alike ?c_alike ?k_alike ?a_asked ?l_asked ?c_asked ?k_asked ?a_refused ?l_refused ?c_refused ?k_refused ?a_refused_by_base ?l_refused_by_base ?c_refused_by_base ?k_refused_by_base ?a_at ?l_at ?c_at ?k_at ?a_step ?l_step ?c_step ?k_step ?a_end ?l_end ?c_end ?k_end ?a_law ?l_law ?c_law ?k_law ?m_len ?m_int ?m_abs ?m_min ?m_max ?m_isinstance ?m_range ?m_bool ?m_str ?m_list ?m_tuple ?m_sorted ?m_all ?m_ValueError ?m_iter ?n_BadNode ?n_PaperError ?n_BadModel ?n_BadName ?n_BadLiteral ?n_BadRatio ?n_BadSort ?n_BadText ?n_NameTaken ?n_NoAnswer ?n_NoLevel ?n_UnknownName ?n_Signature ?n_Bank ?a_BadNode_init ?i_BadNode_init ?l_BadNode_init ?c_BadNode_init ?k_BadNode_init ?a_Bank_init ?i_Bank_init ?l_Bank_init ?c_Bank_init ?k_Bank_init ?a_Bank_make ?i_Bank_make ?l_Bank_make ?c_Bank_make ?k_Bank_make ?a_Bank_seek ?i_Bank_seek ?l_Bank_seek ?c_Bank_seek ?k_Bank_seek ?a_Bank_node ?i_Bank_node ?l_Bank_node ?c_Bank_node ?k_Bank_node ?a_Bank_sort_of ?i_Bank_sort_of ?l_Bank_sort_of ?c_Bank_sort_of ?k_Bank_sort_of ?a_Bank_has ?i_Bank_has ?l_Bank_has ?c_Bank_has ?k_Bank_has ?a_Bank_len ?i_Bank_len ?l_Bank_len ?c_Bank_len ?k_Bank_len ?a_Bank_iter ?i_Bank_iter ?l_Bank_iter ?c_Bank_iter ?k_Bank_iter ?a_Signature_init ?i_Signature_init ?l_Signature_init ?c_Signature_init ?k_Signature_init ?a_Signature_declare_sort ?i_Signature_declare_sort ?l_Signature_declare_sort ?c_Signature_declare_sort ?k_Signature_declare_sort ?a_Signature_declare_function ?i_Signature_declare_function ?l_Signature_declare_function ?c_Signature_declare_function ?k_Signature_declare_function ?a_Signature_functions ?i_Signature_functions ?l_Signature_functions ?c_Signature_functions ?k_Signature_functions ?a_Signature_knows_sort ?i_Signature_knows_sort ?l_Signature_knows_sort ?c_Signature_knows_sort ?k_Signature_knows_sort ?a_Signature_knows_function ?i_Signature_knows_function ?l_Signature_knows_function ?c_Signature_knows_function ?k_Signature_knows_function ?a_Signature_arguments_of ?i_Signature_arguments_of ?l_Signature_arguments_of ?c_Signature_arguments_of ?k_Signature_arguments_of ?a_Signature_result_of ?i_Signature_result_of ?l_Signature_result_of ?c_Signature_result_of ?k_Signature_result_of ?a_Signature_function ?i_Signature_function ?l_Signature_function ?c_Signature_function ?k_Signature_function ?a_Signature_refuse_name ?i_Signature_refuse_name ?l_Signature_refuse_name ?c_Signature_refuse_name ?k_Signature_refuse_name ?pg_Signature ?hd_Signature ?po_Signature ?sa_Signature ?mk_Signature ?kc_Signature ?nf_Signature__sorts ?nf_Signature__functions ?pg_Bank ?hd_Bank ?po_Bank ?sa_Bank ?mk_Bank ?kc_Bank ?nf_Bank_signature ?nf_Bank__nodes ?nf_Bank__sorts ?nf_Bank__numbers ?nz_OPS ?nz_RESERVED ?nz_BASE_SORTS ?nz_CONNECTIVES ?nz_LEAF_SORTS ?nz_SUMS ?zl_OPS ?zl_RESERVED ?zl_BASE_SORTS ?zl_CONNECTIVES ?nd_LEAF_SORTS_0 ?nd_LEAF_SORTS_1 ?nd_LEAF_SORTS_2 ?nd_LEAF_SORTS_3 ?kd_LEAF_SORTS ?kl_LEAF_SORTS ?ko_LEAF_SORTS ?nd_SUMS_0 ?nd_SUMS_1 ?nd_SUMS_2 ?kd_SUMS ?kl_SUMS ?ko_SUMS ?mm_LEAF_SORTS_0 ?mm_LEAF_SORTS_1 ?mm_LEAF_SORTS_2 ?mm_LEAF_SORTS_3 ?mm_LEAF_SORTS_4 ?mm_LEAF_SORTS_5 ?mm_LEAF_SORTS_6 ?mm_LEAF_SORTS_7 ?mm_LEAF_SORTS_8 ?mm_LEAF_SORTS_9 ?mm_LEAF_SORTS_10 ?mm_LEAF_SORTS_11 ?mm_LEAF_SORTS_12 ?mm_SUMS_0 ?mm_SUMS_1 ?mm_SUMS_2 ?mm_SUMS_3 ?mm_SUMS_4 ?mm_SUMS_5 ?mm_SUMS_6 ?mm_SUMS_7 ?mm_SUMS_8 ?mm_SUMS_9 ?mm_SUMS_10 ?mm_SUMS_11 ?mm_SUMS_12 ?mm_SUMS_13 ?rd_PaperError ?ga_PaperError ?vi_PaperError ?xL_BadNode ?sa_BadNode ?eC_BadNode ?tC_BadNode ?kC_BadNode ?hg_BadNode ?hk_BadNode ?hd_BadNode ?ha_BadNode ?hm_BadNode ?no_BadNode ?x_hn ?x_ht ?e_BadNode_BadNode ?e_BadNode_PaperError ?k_BadNode_BadModel ?k_BadNode_BadName ?k_BadNode_BadLiteral ?k_BadNode_BadRatio ?k_BadNode_BadSort ?k_BadNode_BadText ?k_BadNode_NameTaken ?k_BadNode_NoAnswer ?k_BadNode_NoLevel ?k_BadNode_UnknownName ?k_BadNode_BadNode ?k_BadNode_ValueError ?e_ao)
    (case a_parts_kept => first | k_is | k_exc | rfl | kernel_rfl); (case l_parts_kept => first | k_is | k_exc | rfl | kernel_rfl); (case c_parts_kept => first | k_is | k_exc | rfl | kernel_rfl); (case k_parts_kept => first | k_is | k_exc | rfl | kernel_rfl); (case a_sort_made => first | k_is | k_exc | rfl | kernel_rfl); (case l_sort_made => first | k_is | k_exc | rfl | kernel_rfl); (case c_sort_made => first | k_is | k_exc | rfl | kernel_rfl); (case k_sort_made => first | k_is | k_exc | rfl | kernel_rfl); (case a_sum_fits => first | k_is | k_exc | rfl | kernel_rfl); (case l_sum_fits => first | k_is | k_exc | rfl | kernel_rfl); (case c_sum_fits => first | k_is | k_exc | rfl | kernel_rfl); (case k_sum_fits => first | k_is | k_exc | rfl | kernel_rfl); (case a_connective_fits => first | k_is | k_exc | rfl | kernel_rfl); (case l_connective_fits => first | k_is | k_exc | rfl | kernel_rfl); (case c_connective_fits => first | k_is | k_exc | rfl | kernel_rfl); (case k_connective_fits => first | k_is | k_exc | rfl | kernel_rfl); (case a_comparison_fits => first | k_is | k_exc | rfl | kernel_rfl); (case l_comparison_fits => first | k_is | k_exc | rfl | kernel_rfl); (case c_comparison_fits => first | k_is | k_exc | rfl | kernel_rfl); (case k_comparison_fits => first | k_is | k_exc | rfl | kernel_rfl); (case a_all_of => first | k_is | k_exc | rfl | kernel_rfl); (case l_all_of => first | k_is | k_exc | rfl | kernel_rfl); (case c_all_of => first | k_is | k_exc | rfl | kernel_rfl); (case k_all_of => first | k_is | k_exc | rfl | kernel_rfl); (case a_is_name => first | k_is | k_exc | rfl | kernel_rfl); (case l_is_name => first | k_is | k_exc | rfl | kernel_rfl); (case c_is_name => first | k_is | k_exc | rfl | kernel_rfl); (case k_is_name => first | k_is | k_exc | rfl | kernel_rfl); (case a_pool => first | k_is | k_exc | rfl | kernel_rfl); (case l_pool => first | k_is | k_exc | rfl | kernel_rfl); (case c_pool => first | k_is | k_exc | rfl | kernel_rfl); (case k_pool => first | k_is | k_exc | rfl | kernel_rfl); (case a_take => first | k_is | k_exc | rfl | kernel_rfl); (case l_take => first | k_is | k_exc | rfl | kernel_rfl); (case c_take => first | k_is | k_exc | rfl | kernel_rfl); (case k_take => first | k_is | k_exc | rfl | kernel_rfl); (case a_word => first | k_is | k_exc | rfl | kernel_rfl); (case l_word => first | k_is | k_exc | rfl | kernel_rfl); (case c_word => first | k_is | k_exc | rfl | kernel_rfl); (case k_word => first | k_is | k_exc | rfl | kernel_rfl); (case a_world => first | k_is | k_exc | rfl | kernel_rfl); (case l_world => first | k_is | k_exc | rfl | kernel_rfl); (case c_world => first | k_is | k_exc | rfl | kernel_rfl); (case k_world => first | k_is | k_exc | rfl | kernel_rfl); (case a_number => first | k_is | k_exc | rfl | kernel_rfl); (case l_number => first | k_is | k_exc | rfl | kernel_rfl); (case c_number => first | k_is | k_exc | rfl | kernel_rfl); (case k_number => first | k_is | k_exc | rfl | kernel_rfl); (case a_lowest => first | k_is | k_exc | rfl | kernel_rfl); (case l_lowest => first | k_is | k_exc | rfl | kernel_rfl); (case c_lowest => first | k_is | k_exc | rfl | kernel_rfl); (case k_lowest => first | k_is | k_exc | rfl | kernel_rfl); (case a_wide => first | k_is | k_exc | rfl | kernel_rfl); (case l_wide => first | k_is | k_exc | rfl | kernel_rfl); (case c_wide => first | k_is | k_exc | rfl | kernel_rfl); (case k_wide => first | k_is | k_exc | rfl | kernel_rfl); (case a_large => first | k_is | k_exc | rfl | kernel_rfl); (case l_large => first | k_is | k_exc | rfl | kernel_rfl); (case c_large => first | k_is | k_exc | rfl | kernel_rfl); (case k_large => first | k_is | k_exc | rfl | kernel_rfl); (case a_kind => first | k_is | k_exc | rfl | kernel_rfl); (case l_kind => first | k_is | k_exc | rfl | kernel_rfl); (case c_kind => first | k_is | k_exc | rfl | kernel_rfl); (case k_kind => first | k_is | k_exc | rfl | kernel_rfl); (case a_some => first | k_is | k_exc | rfl | kernel_rfl); (case l_some => first | k_is | k_exc | rfl | kernel_rfl); (case c_some => first | k_is | k_exc | rfl | kernel_rfl); (case k_some => first | k_is | k_exc | rfl | kernel_rfl); (case a_making => first | k_is | k_exc | rfl | kernel_rfl); (case l_making => first | k_is | k_exc | rfl | kernel_rfl); (case c_making => first | k_is | k_exc | rfl | kernel_rfl); (case k_making => first | k_is | k_exc | rfl | kernel_rfl); (case a_again => first | k_is | k_exc | rfl | kernel_rfl); (case l_again => first | k_is | k_exc | rfl | kernel_rfl); (case c_again => first | k_is | k_exc | rfl | kernel_rfl); (case k_again => first | k_is | k_exc | rfl | kernel_rfl); (case a_node => first | k_is | k_exc | rfl | kernel_rfl); (case l_node => first | k_is | k_exc | rfl | kernel_rfl); (case c_node => first | k_is | k_exc | rfl | kernel_rfl); (case k_node => first | k_is | k_exc | rfl | kernel_rfl); (case a_node_sort => first | k_is | k_exc | rfl | kernel_rfl); (case l_node_sort => first | k_is | k_exc | rfl | kernel_rfl); (case c_node_sort => first | k_is | k_exc | rfl | kernel_rfl); (case k_node_sort => first | k_is | k_exc | rfl | kernel_rfl); (case a_whole => first | k_is | k_exc | rfl | kernel_rfl); (case l_whole => first | k_is | k_exc | rfl | kernel_rfl); (case c_whole => first | k_is | k_exc | rfl | kernel_rfl); (case k_whole => first | k_is | k_exc | rfl | kernel_rfl); (case a_alike => first | k_is | k_exc | rfl | kernel_rfl); (case l_alike => first | k_is | k_exc | rfl | kernel_rfl); (case c_alike => first | k_is | k_exc | rfl | kernel_rfl); (case k_alike => first | k_is | k_exc | rfl | kernel_rfl); (case a_asked => first | k_is | k_exc | rfl | kernel_rfl); (case l_asked => first | k_is | k_exc | rfl | kernel_rfl); (case c_asked => first | k_is | k_exc | rfl | kernel_rfl); (case k_asked => first | k_is | k_exc | rfl | kernel_rfl); (case a_refused => first | k_is | k_exc | rfl | kernel_rfl); (case l_refused => first | k_is | k_exc | rfl | kernel_rfl); (case c_refused => first | k_is | k_exc | rfl | kernel_rfl); (case k_refused => first | k_is | k_exc | rfl | kernel_rfl); (case a_refused_by_base => first | k_is | k_exc | rfl | kernel_rfl); (case l_refused_by_base => first | k_is | k_exc | rfl | kernel_rfl); (case c_refused_by_base => first | k_is | k_exc | rfl | kernel_rfl); (case k_refused_by_base => first | k_is | k_exc | rfl | kernel_rfl); (case a_at => first | k_is | k_exc | rfl | kernel_rfl); (case l_at => first | k_is | k_exc | rfl | kernel_rfl); (case c_at => first | k_is | k_exc | rfl | kernel_rfl); (case k_at => first | k_is | k_exc | rfl | kernel_rfl); (case a_step => first | k_is | k_exc | rfl | kernel_rfl); (case l_step => first | k_is | k_exc | rfl | kernel_rfl); (case c_step => first | k_is | k_exc | rfl | kernel_rfl); (case k_step => first | k_is | k_exc | rfl | kernel_rfl); (case a_end => first | k_is | k_exc | rfl | kernel_rfl); (case l_end => first | k_is | k_exc | rfl | kernel_rfl); (case c_end => first | k_is | k_exc | rfl | kernel_rfl); (case k_end => first | k_is | k_exc | rfl | kernel_rfl); (case a_law => first | k_is | k_exc | rfl | kernel_rfl); (case l_law => first | k_is | k_exc | rfl | kernel_rfl); (case c_law => first | k_is | k_exc | rfl | kernel_rfl); (case k_law => first | k_is | k_exc | rfl | kernel_rfl); (case m_len => first | k_is | k_exc | rfl | kernel_rfl); (case m_int => first | k_is | k_exc | rfl | kernel_rfl); (case m_abs => first | k_is | k_exc | rfl | kernel_rfl); (case m_min => first | k_is | k_exc | rfl | kernel_rfl); (case m_max => first | k_is | k_exc | rfl | kernel_rfl); (case m_isinstance => first | k_is | k_exc | rfl | kernel_rfl); (case m_range => first | k_is | k_exc | rfl | kernel_rfl); (case m_bool => first | k_is | k_exc | rfl | kernel_rfl); (case m_str => first | k_is | k_exc | rfl | kernel_rfl); (case m_list => first | k_is | k_exc | rfl | kernel_rfl); (case m_tuple => first | k_is | k_exc | rfl | kernel_rfl); (case m_sorted => first | k_is | k_exc | rfl | kernel_rfl); (case m_all => first | k_is | k_exc | rfl | kernel_rfl); (case m_ValueError => first | k_is | k_exc | rfl | kernel_rfl); (case m_iter => first | k_is | k_exc | rfl | kernel_rfl); (case n_BadNode => first | k_is | k_exc | rfl | kernel_rfl); (case n_PaperError => first | k_is | k_exc | rfl | kernel_rfl); (case n_BadModel => first | k_is | k_exc | rfl | kernel_rfl); (case n_BadName => first | k_is | k_exc | rfl | kernel_rfl); (case n_BadLiteral => first | k_is | k_exc | rfl | kernel_rfl); (case n_BadRatio => first | k_is | k_exc | rfl | kernel_rfl); (case n_BadSort => first | k_is | k_exc | rfl | kernel_rfl); (case n_BadText => first | k_is | k_exc | rfl | kernel_rfl); (case n_NameTaken => first | k_is | k_exc | rfl | kernel_rfl); (case n_NoAnswer => first | k_is | k_exc | rfl | kernel_rfl); (case n_NoLevel => first | k_is | k_exc | rfl | kernel_rfl); (case n_UnknownName => first | k_is | k_exc | rfl | kernel_rfl); (case n_Signature => first | k_is | k_exc | rfl | kernel_rfl); (case n_Bank => first | k_is | k_exc | rfl | kernel_rfl); (case a_BadNode_init => first | k_is | k_exc | rfl | kernel_rfl); (case i_BadNode_init => first | k_is | k_exc | rfl | kernel_rfl); (case l_BadNode_init => first | k_is | k_exc | rfl | kernel_rfl); (case c_BadNode_init => first | k_is | k_exc | rfl | kernel_rfl); (case k_BadNode_init => first | k_is | k_exc | rfl | kernel_rfl); (case a_Bank_init => first | k_is | k_exc | rfl | kernel_rfl); (case i_Bank_init => first | k_is | k_exc | rfl | kernel_rfl); (case l_Bank_init => first | k_is | k_exc | rfl | kernel_rfl); (case c_Bank_init => first | k_is | k_exc | rfl | kernel_rfl); (case k_Bank_init => first | k_is | k_exc | rfl | kernel_rfl); (case a_Bank_make => first | k_is | k_exc | rfl | kernel_rfl); (case i_Bank_make => first | k_is | k_exc | rfl | kernel_rfl); (case l_Bank_make => first | k_is | k_exc | rfl | kernel_rfl); (case c_Bank_make => first | k_is | k_exc | rfl | kernel_rfl); (case k_Bank_make => first | k_is | k_exc | rfl | kernel_rfl); (case a_Bank_seek => first | k_is | k_exc | rfl | kernel_rfl); (case i_Bank_seek => first | k_is | k_exc | rfl | kernel_rfl); (case l_Bank_seek => first | k_is | k_exc | rfl | kernel_rfl); (case c_Bank_seek => first | k_is | k_exc | rfl | kernel_rfl); (case k_Bank_seek => first | k_is | k_exc | rfl | kernel_rfl); (case a_Bank_node => first | k_is | k_exc | rfl | kernel_rfl); (case i_Bank_node => first | k_is | k_exc | rfl | kernel_rfl); (case l_Bank_node => first | k_is | k_exc | rfl | kernel_rfl); (case c_Bank_node => first | k_is | k_exc | rfl | kernel_rfl); (case k_Bank_node => first | k_is | k_exc | rfl | kernel_rfl); (case a_Bank_sort_of => first | k_is | k_exc | rfl | kernel_rfl); (case i_Bank_sort_of => first | k_is | k_exc | rfl | kernel_rfl); (case l_Bank_sort_of => first | k_is | k_exc | rfl | kernel_rfl); (case c_Bank_sort_of => first | k_is | k_exc | rfl | kernel_rfl); (case k_Bank_sort_of => first | k_is | k_exc | rfl | kernel_rfl); (case a_Bank_has => first | k_is | k_exc | rfl | kernel_rfl); (case i_Bank_has => first | k_is | k_exc | rfl | kernel_rfl); (case l_Bank_has => first | k_is | k_exc | rfl | kernel_rfl); (case c_Bank_has => first | k_is | k_exc | rfl | kernel_rfl); (case k_Bank_has => first | k_is | k_exc | rfl | kernel_rfl); (case a_Bank_len => first | k_is | k_exc | rfl | kernel_rfl); (case i_Bank_len => first | k_is | k_exc | rfl | kernel_rfl); (case l_Bank_len => first | k_is | k_exc | rfl | kernel_rfl); (case c_Bank_len => first | k_is | k_exc | rfl | kernel_rfl); (case k_Bank_len => first | k_is | k_exc | rfl | kernel_rfl); (case a_Bank_iter => first | k_is | k_exc | rfl | kernel_rfl); (case i_Bank_iter => first | k_is | k_exc | rfl | kernel_rfl); (case l_Bank_iter => first | k_is | k_exc | rfl | kernel_rfl); (case c_Bank_iter => first | k_is | k_exc | rfl | kernel_rfl); (case k_Bank_iter => first | k_is | k_exc | rfl | kernel_rfl); (case a_Signature_init => first | k_is | k_exc | rfl | kernel_rfl); (case i_Signature_init => first | k_is | k_exc | rfl | kernel_rfl); (case l_Signature_init => first | k_is | k_exc | rfl | kernel_rfl); (case c_Signature_init => first | k_is | k_exc | rfl | kernel_rfl); (case k_Signature_init => first | k_is | k_exc | rfl | kernel_rfl); (case a_Signature_declare_sort => first | k_is | k_exc | rfl | kernel_rfl); (case i_Signature_declare_sort => first | k_is | k_exc | rfl | kernel_rfl); (case l_Signature_declare_sort => first | k_is | k_exc | rfl | kernel_rfl); (case c_Signature_declare_sort => first | k_is | k_exc | rfl | kernel_rfl); (case k_Signature_declare_sort => first | k_is | k_exc | rfl | kernel_rfl); (case a_Signature_declare_function => first | k_is | k_exc | rfl | kernel_rfl); (case i_Signature_declare_function => first | k_is | k_exc | rfl | kernel_rfl); (case l_Signature_declare_function => first | k_is | k_exc | rfl | kernel_rfl); (case c_Signature_declare_function => first | k_is | k_exc | rfl | kernel_rfl); (case k_Signature_declare_function => first | k_is | k_exc | rfl | kernel_rfl); (case a_Signature_functions => first | k_is | k_exc | rfl | kernel_rfl); (case i_Signature_functions => first | k_is | k_exc | rfl | kernel_rfl); (case l_Signature_functions => first | k_is | k_exc | rfl | kernel_rfl); (case c_Signature_functions => first | k_is | k_exc | rfl | kernel_rfl); (case k_Signature_functions => first | k_is | k_exc | rfl | kernel_rfl); (case a_Signature_knows_sort => first | k_is | k_exc | rfl | kernel_rfl); (case i_Signature_knows_sort => first | k_is | k_exc | rfl | kernel_rfl); (case l_Signature_knows_sort => first | k_is | k_exc | rfl | kernel_rfl); (case c_Signature_knows_sort => first | k_is | k_exc | rfl | kernel_rfl); (case k_Signature_knows_sort => first | k_is | k_exc | rfl | kernel_rfl); (case a_Signature_knows_function => first | k_is | k_exc | rfl | kernel_rfl); (case i_Signature_knows_function => first | k_is | k_exc | rfl | kernel_rfl); (case l_Signature_knows_function => first | k_is | k_exc | rfl | kernel_rfl); (case c_Signature_knows_function => first | k_is | k_exc | rfl | kernel_rfl); (case k_Signature_knows_function => first | k_is | k_exc | rfl | kernel_rfl); (case a_Signature_arguments_of => first | k_is | k_exc | rfl | kernel_rfl); (case i_Signature_arguments_of => first | k_is | k_exc | rfl | kernel_rfl); (case l_Signature_arguments_of => first | k_is | k_exc | rfl | kernel_rfl); (case c_Signature_arguments_of => first | k_is | k_exc | rfl | kernel_rfl); (case k_Signature_arguments_of => first | k_is | k_exc | rfl | kernel_rfl); (case a_Signature_result_of => first | k_is | k_exc | rfl | kernel_rfl); (case i_Signature_result_of => first | k_is | k_exc | rfl | kernel_rfl); (case l_Signature_result_of => first | k_is | k_exc | rfl | kernel_rfl); (case c_Signature_result_of => first | k_is | k_exc | rfl | kernel_rfl); (case k_Signature_result_of => first | k_is | k_exc | rfl | kernel_rfl); (case a_Signature_function => first | k_is | k_exc | rfl | kernel_rfl); (case i_Signature_function => first | k_is | k_exc | rfl | kernel_rfl); (case l_Signature_function => first | k_is | k_exc | rfl | kernel_rfl); (case c_Signature_function => first | k_is | k_exc | rfl | kernel_rfl); (case k_Signature_function => first | k_is | k_exc | rfl | kernel_rfl); (case a_Signature_refuse_name => first | k_is | k_exc | rfl | kernel_rfl); (case i_Signature_refuse_name => first | k_is | k_exc | rfl | kernel_rfl); (case l_Signature_refuse_name => first | k_is | k_exc | rfl | kernel_rfl); (case c_Signature_refuse_name => first | k_is | k_exc | rfl | kernel_rfl); (case k_Signature_refuse_name => first | k_is | k_exc | rfl | kernel_rfl); (case pg_Signature => first | k_is | k_exc | rfl | kernel_rfl); (case hd_Signature => first | k_is | k_exc | rfl | kernel_rfl); (case po_Signature => first | k_is | k_exc | rfl | kernel_rfl); (case sa_Signature => first | k_is | k_exc | rfl | kernel_rfl); (case mk_Signature => first | k_is | k_exc | rfl | kernel_rfl); (case kc_Signature => first | k_is | k_exc | rfl | kernel_rfl); (case nf_Signature__sorts => first | k_is | k_exc | rfl | kernel_rfl); (case nf_Signature__functions => first | k_is | k_exc | rfl | kernel_rfl); (case pg_Bank => first | k_is | k_exc | rfl | kernel_rfl); (case hd_Bank => first | k_is | k_exc | rfl | kernel_rfl); (case po_Bank => first | k_is | k_exc | rfl | kernel_rfl); (case sa_Bank => first | k_is | k_exc | rfl | kernel_rfl); (case mk_Bank => first | k_is | k_exc | rfl | kernel_rfl); (case kc_Bank => first | k_is | k_exc | rfl | kernel_rfl); (case nf_Bank_signature => first | k_is | k_exc | rfl | kernel_rfl); (case nf_Bank__nodes => first | k_is | k_exc | rfl | kernel_rfl); (case nf_Bank__sorts => first | k_is | k_exc | rfl | kernel_rfl); (case nf_Bank__numbers => first | k_is | k_exc | rfl | kernel_rfl); (case nz_OPS => first | k_is | k_exc | rfl | kernel_rfl); (case nz_RESERVED => first | k_is | k_exc | rfl | kernel_rfl); (case nz_BASE_SORTS => first | k_is | k_exc | rfl | kernel_rfl); (case nz_CONNECTIVES => first | k_is | k_exc | rfl | kernel_rfl); (case nz_LEAF_SORTS => first | k_is | k_exc | rfl | kernel_rfl); (case nz_SUMS => first | k_is | k_exc | rfl | kernel_rfl); (case zl_OPS => first | k_is | k_exc | rfl | kernel_rfl); (case zl_RESERVED => first | k_is | k_exc | rfl | kernel_rfl); (case zl_BASE_SORTS => first | k_is | k_exc | rfl | kernel_rfl); (case zl_CONNECTIVES => first | k_is | k_exc | rfl | kernel_rfl); (case nd_LEAF_SORTS_0 => first | k_is | k_exc | rfl | kernel_rfl); (case nd_LEAF_SORTS_1 => first | k_is | k_exc | rfl | kernel_rfl); (case nd_LEAF_SORTS_2 => first | k_is | k_exc | rfl | kernel_rfl); (case nd_LEAF_SORTS_3 => first | k_is | k_exc | rfl | kernel_rfl); (case kd_LEAF_SORTS => first | k_is | k_exc | rfl | kernel_rfl); (case kl_LEAF_SORTS => repeat' (first | exact trivial | refine ⟨⟨_, _, rfl, rfl⟩, ?_⟩)); (case ko_LEAF_SORTS => first | k_is | k_exc | rfl | kernel_rfl); (case nd_SUMS_0 => first | k_is | k_exc | rfl | kernel_rfl); (case nd_SUMS_1 => first | k_is | k_exc | rfl | kernel_rfl); (case nd_SUMS_2 => first | k_is | k_exc | rfl | kernel_rfl); (case kd_SUMS => first | k_is | k_exc | rfl | kernel_rfl); (case kl_SUMS => repeat' (first | exact trivial | refine ⟨⟨_, _, rfl, rfl⟩, ?_⟩)); (case ko_SUMS => first | k_is | k_exc | rfl | kernel_rfl); (case mm_LEAF_SORTS_0 => first | k_is | k_exc | rfl | kernel_rfl); (case mm_LEAF_SORTS_1 => first | k_is | k_exc | rfl | kernel_rfl); (case mm_LEAF_SORTS_2 => first | k_is | k_exc | rfl | kernel_rfl); (case mm_LEAF_SORTS_3 => first | k_is | k_exc | rfl | kernel_rfl); (case mm_LEAF_SORTS_4 => first | k_is | k_exc | rfl | kernel_rfl); (case mm_LEAF_SORTS_5 => first | k_is | k_exc | rfl | kernel_rfl); (case mm_LEAF_SORTS_6 => first | k_is | k_exc | rfl | kernel_rfl); (case mm_LEAF_SORTS_7 => first | k_is | k_exc | rfl | kernel_rfl); (case mm_LEAF_SORTS_8 => first | k_is | k_exc | rfl | kernel_rfl); (case mm_LEAF_SORTS_9 => first | k_is | k_exc | rfl | kernel_rfl); (case mm_LEAF_SORTS_10 => first | k_is | k_exc | rfl | kernel_rfl); (case mm_LEAF_SORTS_11 => first | k_is | k_exc | rfl | kernel_rfl); (case mm_LEAF_SORTS_12 => first | k_is | k_exc | rfl | kernel_rfl); (case mm_SUMS_0 => first | k_is | k_exc | rfl | kernel_rfl); (case mm_SUMS_1 => first | k_is | k_exc | rfl | kernel_rfl); (case mm_SUMS_2 => first | k_is | k_exc | rfl | kernel_rfl); (case mm_SUMS_3 => first | k_is | k_exc | rfl | kernel_rfl); (case mm_SUMS_4 => first | k_is | k_exc | rfl | kernel_rfl); (case mm_SUMS_5 => first | k_is | k_exc | rfl | kernel_rfl); (case mm_SUMS_6 => first | k_is | k_exc | rfl | kernel_rfl); (case mm_SUMS_7 => first | k_is | k_exc | rfl | kernel_rfl); (case mm_SUMS_8 => first | k_is | k_exc | rfl | kernel_rfl); (case mm_SUMS_9 => first | k_is | k_exc | rfl | kernel_rfl); (case mm_SUMS_10 => first | k_is | k_exc | rfl | kernel_rfl); (case mm_SUMS_11 => first | k_is | k_exc | rfl | kernel_rfl); (case mm_SUMS_12 => first | k_is | k_exc | rfl | kernel_rfl); (case mm_SUMS_13 => first | k_is | k_exc | rfl | kernel_rfl); (case rd_PaperError => first | k_is | k_exc | rfl | kernel_rfl); (case ga_PaperError => first | k_is | k_exc | rfl | kernel_rfl); (case vi_PaperError => first | k_is | k_exc | rfl | kernel_rfl); (case xL_BadNode => first | k_is | k_exc | rfl | kernel_rfl); (case sa_BadNode => first | k_is | k_exc | rfl | kernel_rfl); (case eC_BadNode => first | k_is | k_exc | rfl | kernel_rfl); (case tC_BadNode => first | k_is | k_exc | rfl | kernel_rfl); (case kC_BadNode => first | k_is | k_exc | rfl | kernel_rfl); (case hg_BadNode => first | k_is | k_exc | rfl | kernel_rfl); (case hk_BadNode => first | k_is | k_exc | rfl | kernel_rfl); (case hd_BadNode => first | k_is | k_exc | rfl | kernel_rfl); (case ha_BadNode => first | k_is | k_exc | rfl | kernel_rfl); (case hm_BadNode => first | k_is | k_exc | rfl | kernel_rfl); (case no_BadNode => first | k_is | k_exc | rfl | kernel_rfl); (case x_hn => first | k_is | k_exc | rfl | kernel_rfl); (case x_ht => first | k_is | k_exc | rfl | kernel_rfl); (case e_BadNode_BadNode => first | k_is | k_exc | rfl | kernel_rfl); (case e_BadNode_PaperError => first | k_is | k_exc | rfl | kernel_rfl); (case k_BadNode_BadModel => first | k_is | k_exc | rfl | kernel_rfl); (case k_BadNode_BadName => first | k_is | k_exc | rfl | kernel_rfl); (case k_BadNode_BadLiteral => first | k_is | k_exc | rfl | kernel_rfl); (case k_BadNode_BadRatio => first | k_is | k_exc | rfl | kernel_rfl); (case k_BadNode_BadSort => first | k_is | k_exc | rfl | kernel_rfl); (case k_BadNode_BadText => first | k_is | k_exc | rfl | kernel_rfl); (case k_BadNode_NameTaken => first | k_is | k_exc | rfl | kernel_rfl); (case k_BadNode_NoAnswer => first | k_is | k_exc | rfl | kernel_rfl); (case k_BadNode_NoLevel => first | k_is | k_exc | rfl | kernel_rfl); (case k_BadNode_UnknownName => first | k_is | k_exc | rfl | kernel_rfl); (case k_BadNode_BadNode => first | k_is | k_exc | rfl | kernel_rfl); (case k_BadNode_ValueError => first | k_is | k_exc | rfl | kernel_rfl); (case e_ao => first | k_is | k_exc | rfl | kernel_rfl)
    case main =>
      obtain ⟨fd, hb, hF⟩ := key
      refine ⟨fd, [(_, 324)], L.spLaw _ 324, fun p hp => ?_, fun p hp => ?_, fun p hp => ?_, hb, fun H a ns hl _ hH hS => ⟨a, ns, rfl, hS, hl, hH _ List.mem_cons_self, fun _ => rfl⟩, hF⟩
      · rw [List.mem_singleton.mp hp]; exact hT8 324 List.mem_cons_self
      · rw [List.mem_singleton.mp hp]; (first | rfl | kernel_rfl | k_is)
      · rw [List.mem_singleton.mp hp]; exact PySem.W.codeHd_of_K KX (by kernel_rfl)
#print axioms PySem.Challenge.cw_papersat_k06_bank_makes_once_holds
