import PyProof.Rows.All
import Wide.All
import OpenK.AllK
import Wide.FinOn
import HandS.ForMost
import HandS.ForExc
import HandS.IsInst
import HandS.Gcd
import HandS.Wide
import HandS.WideBits
import HandS.Defaults
import HandS.ExcIs
import HandS.Small
import HandS.Flow
import HandS.Evl
import HandS.DictEq
import HandS.Walk
import HandS.TupLe
import HandS.More
import HandS.ForDict
import HandS.TupAny
import KE.KDictPairs
import KE.KEqDict
import HandS.OwnIter
import HandS.IterNext
import HandS.DictComp
import HandS.RevRange
import HandS.ExcInit
import HandS.ExcField
import HandS.FStr
import HandS.StrMore
import HandS.Codes
import KE.KExcIs
import KE.SortKeyHeap
import KE.SortData
import HandS.SortKw
import HandS.EndTab
import HandS.Nested
import KE.KDictZip
import PyProof.TupleOfSeq
import HandS.ExcCtx
import HandS.Hot
import HandS.HotCalls
import HandS.TryMany
import HandS.ExcOwn
import HandS.Star
import HandS.SetFor
import HandS.SetKeys
import HandS.Dict
import KE.KDictKeyed
import KE.KeyNested
import HandS.Strs
import HandS.Zip
import HandS.ReplaceLit
import HandS.ReplaceList
import KE.KDictSum
import KE.KDictList
import HandS.SortRule
import HandS.SortInts
import HandS.Deep
import HandS.HeadHook3
import KE.KDictDisplayH
import PySem.Challenge.RW_papersat_k20_meeting_pairs
set_option Elab.async false
set_option linter.all false
set_option maxRecDepth 100000
set_option maxHeartbeats 4000000
/-! ### short words for readings -/
namespace Z
open PySem PySem.Spec PyProof.Rows L2
variable {σ σ' : L2.St} {H : Hp} {Q : VK} {D : Ends} {ta tb te : TE} {t u : TS} {tt tu : TT} {g : TG} {v x y : V} {i : Nat} {K : PySem.W.Frag} {p : Addr}
theorem w_var (h : σ[i]? = some (some v)) (q : Q v H) : tVar i σ H Q := ⟨v, h, q⟩
theorem w_c (q : Q v H) : tC v σ H Q := q
theorem w_op {r : R2} (h : ta σ H fun x H1 => tb σ H1 fun y H2 => r x y H2 Q) : tOp r ta tb σ H Q := h
theorem w_un {r : V → Hp → VK → Prop} (h : ta σ H fun x H1 => r x H1 Q) : tUn r ta σ H Q := h
theorem w_rI0 {f : Int → Int → V} {a b : Int} (q : Q (f a b) H) : rI0 f (.int a) (.int b) H Q := ⟨a, b, rfl, rfl, q⟩
theorem w_rI {C : Int → Int → Prop} {f : Int → Int → V} {a b : Int} (c : C a b) (q : Q (f a b) H) : rI C f (.int a) (.int b) H Q := ⟨a, b, rfl, rfl, c, q⟩
theorem w_rU {f : Int → V} {a : Int} (q : Q (f a) H) : rU f (.int a) H Q := ⟨a, rfl, q⟩
theorem w_rEq (c : scal x y = true) (q : Q (.bl (decide (x = y))) H) : rEq x y H Q := ⟨c, q⟩
theorem w_rNe (c : scal x y = true) (q : Q (.bl (!decide (x = y))) H) : rNe x y H Q := ⟨c, q⟩
theorem w_rEqI {a b : Int} (q : Q (.bl (decide (a = b))) H) : rEq (.int a) (.int b) H Q := ⟨rfl, by
  rw [show decide (V.int a = V.int b) = decide (a = b) by simp]; exact q⟩
theorem w_rNeI {a b : Int} (q : Q (.bl (!decide (a = b))) H) : rNe (.int a) (.int b) H Q := ⟨rfl, by
  rw [show decide (V.int a = V.int b) = decide (a = b) by simp]; exact q⟩
theorem w_ixL {xs : List V} {k : Int} (h : SqL K H p xs) (a : atI xs k = some v) (q : Q v H) : rIxL K (.ref p) (.int k) H Q := ⟨p, xs, k, v, rfl, rfl, h, a, q⟩
theorem w_ixT {xs : List V} {k : Int} (h : SqT K H p xs) (a : atI xs k = some v) (q : Q v H) : rIxT K (.ref p) (.int k) H Q := ⟨p, xs, k, v, rfl, rfl, h, a, q⟩
theorem w_start (e : σ = σ') (h : t D σ' H) : t D σ H := by rw [e]; exact h
theorem w_seq (h : t { D with nx := u D } σ H) : tSeq t u D σ H := h
theorem w_next (h : D.nx σ H) : tNext D σ H := h
theorem w_break (h : D.bk σ H) : tBreak D σ H := h
theorem w_cont (h : D.ct σ H) : tCont D σ H := h
theorem w_drop (h : te σ H fun _ H1 => D.nx σ H1) : tDrop te D σ H := h
theorem w_ret (h : te σ H D.rt) : tRet te D σ H := h
theorem w_asg (h : te σ H fun x H1 => g x σ H1 D.nx) : tAsg te g D σ H := h
theorem w_gname {R : L2.St → Hp → Prop} (e : σ.set i (some v) = σ') (h : R σ' H) : gName i v σ H R := by rw [← e] at h; exact h
theorem w_ifs (h : tt σ H fun b H1 => if b = true then t D σ H1 else u D σ H1) : tIfS tt t u D σ H := h
theorem w_test {R : Bool → Hp → Prop} (h : te σ H fun x H1 => ∃ k, x = .bl k ∧ R k H1) : tTest te σ H R := h
theorem w_B {R : Bool → Hp → Prop} (h : te σ H fun x H1 => ∃ k, x = .bl k ∧ R k H1) : tB te σ H R := h
theorem w_bl {k : Bool} {R : Bool → Prop} (h : R k) : ∃ c, V.bl k = V.bl c ∧ R c := ⟨k, rfl, h⟩
theorem w_tand {R : Bool → Hp → Prop} (h : tt σ H fun c H1 => if c = true then tu σ H1 R else R false H1) : tAnd tt tu σ H R := h
theorem w_tor {R : Bool → Hp → Prop} (h : tt σ H fun c H1 => if c = true then R true H1 else tu σ H1 R) : tOr tt tu σ H R := h
theorem w_tnot {R : Bool → Hp → Prop} (h : tt σ H fun c H1 => R (!c) H1) : tNot tt σ H R := h
theorem w_andV (h : ta σ H fun x H1 => ∃ c, x = .bl c ∧ if c = true then tb σ H1 Q else Q (.bl false) H1) : tAndV ta tb σ H Q := h
theorem w_orV (h : ta σ H fun x H1 => ∃ c, x = .bl c ∧ if c = true then Q (.bl true) H1 else tb σ H1 Q) : tOrV ta tb σ H Q := h
theorem w_notV (h : ta σ H fun x H1 => ∃ c, x = .bl c ∧ Q (.bl (!c)) H1) : tNotV ta σ H Q := h
theorem w_ifV (h : tt σ H fun c H1 => if c = true then ta σ H1 Q else tb σ H1 Q) : tIf tt ta tb σ H Q := h
theorem w_nil {R : List V → Hp → Prop} (h : R [] H) : tNil σ H R := h
theorem w_cons {tr : TA} {R : List V → Hp → Prop} (h : ta σ H fun x H1 => tr σ H1 fun xs H2 => R (x :: xs) H2) : tCons ta tr σ H R := h
theorem w_cb {r : List V → Hp → VK → Prop} {tl : TA} (h : tl σ H fun vs H1 => r vs H1 Q) : tCB r tl σ H Q := h
theorem w_call {sp : Sp} {dvs : List V} {E : XK} {tl : TA} (h : tl σ H fun vs H1 => sp (vs ++ dvs) H1 Q E) : tCall sp dvs E tl σ H Q := h
theorem w_call0 {sp : Sp} {E : XK} {tl : TA} (h : tl σ H fun vs H1 => sp vs H1 Q E) : tCall sp [] E tl σ H Q := by
  unfold tCall
  simp only [List.append_nil]
  exact h
theorem w_tup {tl : TA} (h : tl σ H fun xs H1 => xs.length ≤ sizeLine ∧ ∀ p, H1 p = none → Q (.ref p) (upd H1 p (.tup xs))) : tTup tl σ H Q := h
theorem w_lst {tl : TA} (h : tl σ H fun xs H1 => xs.length ≤ sizeLine ∧ ∀ p, H1 p = none → Q (.ref p) (upd H1 p (.lst xs))) : tLst tl σ H Q := h
def par2 (a b : Nat) (vs : List V) (σ : L2.St) (H : Hp) (R : L2.St → Hp → Prop) : Prop := ∃ v w, vs = [v, w] ∧ R ((σ.set a (some v)).set b (some w)) H
theorem w_par {a b : Nat} {tl : TA} (h : tl σ H fun vs H1 => par2 a b vs σ H1 D.nx) : tPar a b tl D σ H := h
theorem w_par2 {a b : Nat} {v w : V} {R : L2.St → Hp → Prop} (e : (σ.set a (some v)).set b (some w) = σ') (h : R σ' H) : par2 a b [v, w] σ H R := ⟨v, w, rfl, by rw [e]; exact h⟩
theorem w_gtup {n : Nat} {gs : TGs} {xs : List V} {R : L2.St → Hp → Prop} (h : SqT K H p xs) (l : xs.length = n) (q : gs xs σ H R) : gTup K n gs (.ref p) σ H R := ⟨p, xs, rfl, h, l, q⟩
theorem w_gcons {gs : TGs} {vs : List V} {R : L2.St → Hp → Prop} (h : g v σ H fun σ' H' => gs vs σ' H' R) : gCons g gs (v :: vs) σ H R := ⟨v, vs, rfl, h⟩
theorem w_gnil {R : L2.St → Hp → Prop} (h : R σ H) : gNil [] σ H R := ⟨rfl, h⟩
theorem w_gsub {to ti : TE} {ts : TSet} {R : L2.St → Hp → Prop} (h : to σ H fun o H1 => ti σ H1 fun i H2 => ts o i v H2 fun H3 => R σ H3) : gSub to ti ts v σ H R := h
theorem w_setL {xs : List V} {k : Int} {j : Nat} {R : Hp → Prop} (h : H p = some (.lst xs)) (e : ixN xs.length k = some j) (q : R (upd H p (.lst (xs.set j v)))) : rSetL (.ref p) (.int k) v H R := ⟨p, xs, k, j, rfl, rfl, h, e, q⟩
theorem w_rng1 {tl : TA} {R : It → Hp → Prop} (h : tl σ H fun vs H1 => ∃ j : Int, vs = [.int j] ∧ -(2 ^ 62) ≤ j ∧ j < 2 ^ 62 ∧ R (Itr 0 j.toNat) H1) : iRng1 tl σ H R := h
theorem w_rng1' {j : Int} {R : It → Prop} (h1 : -(2 ^ 62) ≤ j) (h2 : j < 2 ^ 62) (h : R (Itr 0 j.toNat)) : ∃ k : Int, [V.int j] = [.int k] ∧ -(2 ^ 62) ≤ k ∧ k < 2 ^ 62 ∧ R (Itr 0 k.toNat) := ⟨j, rfl, h1, h2, h⟩
theorem w_for {wi : TI} {tb' : TS} (h : wi σ H fun J H1 => ∃ W : Nat → Nat → L2.St → Hp → Prop, (∃ m, W 0 m σ H1) ∧ ∀ i m σ H, W i m σ H →
  (J.stop i H ∧ D.nx σ H) ∨ (J.go i H ∧ ∃ N : L2.St → Hp → Prop, (∀ σ' H', N σ' H' → ∃ m', m' < m ∧ W (i + 1) m' σ' H') ∧ ∀ x H', J.yld i H x H' → g x σ H' fun σ2 H2 => tb' { D with nx := N, ct := N, bk := D.nx } σ2 H2)) : tFor wi g tb' D σ H := h
theorem w_bits (h : te σ H fun x H1 => ∃ i, x = .int i ∧ Q (.int (Builtin.Int.intBits i : Nat)) H1) : tBits te σ H Q := h
theorem w_ex1 {a : Int} {R : Int → Prop} (h : R a) : ∃ i, V.int a = V.int i ∧ R i := ⟨a, rfl, h⟩
theorem w_exl {xs : List V} {R : List V → Prop} (h : R xs) : ∃ ys, xs = ys ∧ R ys := ⟨xs, rfl, h⟩
theorem sz4 {n : Nat} (h : n ≤ 1000) : n ≤ sizeLine := Nat.le_trans h (by decide)
theorem w_ixH {xs : List V} {k : Int} (h : H p = some (.lst xs)) (a : atI xs k = some v) (q : Q v H) : rIxL K (.ref p) (.int k) H Q := ⟨p, xs, k, v, rfl, rfl, .inl (.inl h), a, q⟩
theorem w_ixTH {xs : List V} {k : Int} (h : H p = some (.tup xs)) (a : atI xs k = some v) (q : Q v H) : rIxT K (.ref p) (.int k) H Q := ⟨p, xs, k, v, rfl, rfl, .inl (.inl h), a, q⟩
theorem w_gtupH {n : Nat} {gs : TGs} {xs : List V} {R : L2.St → Hp → Prop} (h : H p = some (.tup xs)) (l : xs.length = n) (q : gs xs σ H R) : gTup K n gs (.ref p) σ H R := ⟨p, xs, rfl, .inl (.inl h), l, q⟩
theorem w_setLu {xs ys : List V} {k : Int} {j : Nat} {R : Hp → Prop} {H0 : Hp} (e : ixN xs.length k = some j) (e2 : xs.set j v = ys) (q : R (upd H0 p (.lst ys))) : rSetL (.ref p) (.int k) v (upd H0 p (.lst xs)) R := ⟨p, xs, k, j, rfl, rfl, upd_same, e, by rw [upd_upd, e2]; exact q⟩
theorem w_setLh {xs ys : List V} {k : Int} {j : Nat} {R : Hp → Prop} (h : H p = some (.lst xs)) (e : ixN xs.length k = some j) (e2 : xs.set j v = ys) (q : R (upd H p (.lst ys))) : rSetL (.ref p) (.int k) v H R := ⟨p, xs, k, j, rfl, rfl, h, e, by rw [e2]; exact q⟩
theorem w_lenL {xs : List V} {R : V → Prop} (h : SqL K H p xs) (q : R (.int xs.length)) : ∃ a ys, [V.ref p] = [.ref a] ∧ (SqL K H a ys ∨ SqT K H a ys) ∧ R (.int ys.length) := ⟨p, xs, rfl, .inl h, q⟩
theorem w_lenT {xs : List V} {R : V → Prop} (h : SqT K H p xs) (q : R (.int xs.length)) : ∃ a ys, [V.ref p] = [.ref a] ∧ (SqL K H a ys ∨ SqT K H a ys) ∧ R (.int ys.length) := ⟨p, xs, rfl, .inr h, q⟩
theorem upd_skip {a b : Addr} {o : HO} {u : Option HO} (h : a ≠ b) (e : H a = u) : (upd H b o) a = u := by rw [upd_ne h]; exact e
section
variable {c A B : Prop} [Decidable c]
theorem w_ite (h1 : c → A) (h2 : ¬ c → B) : if decide c = true then A else B := by
  by_cases h : c
  · rw [if_pos (decide_eq_true h)]; exact h1 h
  · rw [if_neg (fun z => h (of_decide_eq_true z))]; exact h2 h
theorem w_iteN (h1 : ¬ c → A) (h2 : c → B) : if (!decide c) = true then A else B := by
  by_cases h : c
  · rw [decide_eq_true h]; exact h2 h
  · rw [decide_eq_false h]; exact h1 h
theorem w_iteT (h : c) (q : A) : if decide c = true then A else B := by rw [if_pos (decide_eq_true h)]; exact q
theorem w_iteF (h : ¬ c) (q : B) : if decide c = true then A else B := by rw [if_neg (fun z => h (of_decide_eq_true z))]; exact q
theorem w_iteNT (h : ¬ c) (q : A) : if (!decide c) = true then A else B := by rw [decide_eq_false h]; exact q
theorem w_iteNF (h : c) (q : B) : if (!decide c) = true then A else B := by rw [decide_eq_true h]; exact q
theorem w_iteb {k : Bool} (h1 : k = true → A) (h2 : k = false → B) : if k = true then A else B := by
  cases k with
  | true => exact h1 rfl
  | false => exact h2 rfl
theorem w_ibT (q : A) : if true = true then A else B := q
theorem w_ibF (q : B) : if false = true then A else B := q
theorem w_ibNT (q : A) : if (!false) = true then A else B := q
theorem w_ibNF (q : B) : if (!true) = true then A else B := q
end
theorem upd_fresh {a b : Addr} {o : HO} (h : H a = none) (h' : H b = some o) {u : HO} (hu : upd H b u a = none) : True := trivial
theorem fresh_of {a b : Addr} {u : HO} (h : (upd H b u) a = none) : a ≠ b ∧ H a = none := by
  by_cases e : a = b
  · subst e; rw [upd_same] at h; cases h
  · rw [upd_ne e] at h; exact ⟨e, h⟩
theorem pick {ns : List Int} {k : Int} (h0 : 0 ≤ k) (h : k < ns.length) : ∃ z, atI (ns.map V.int) k = some (.int z) ∧ z ∈ ns := by
  obtain ⟨j, rfl⟩ := Int.eq_ofNat_of_zero_le h0
  have hj : j < ns.length := by omega
  refine ⟨ns[j], atI_nat (j := j) ?_, List.getElem_mem hj⟩
  rw [List.getElem?_map, List.getElem?_eq_getElem hj]
  rfl
theorem w_isi {c x : V} {ty u : Value} {b : Bool} (hc : ClsV c u) (ht : TyX K H x ty) (e : PySem.W.kitOne K ty u = some b) (q : Q (.bl b) H) : rIsi K [x, c] H Q := ⟨x, c, ty, u, b, rfl, hc, ht, e, q⟩
theorem w_isi_ii {a : Int} (q : Q (.bl true) H) : rIsi K [.int a, .ty "int"] H Q := w_isi (.ty _) (.base (.int _)) (kit_ty (by decide +kernel)) q
theorem w_isi_ib {a : Int} (q : Q (.bl false) H) : rIsi K [.int a, .ty "bool"] H Q := w_isi (.ty _) (.base (.int _)) (kit_ty (by decide +kernel)) q
theorem w_isi_bb {a : Bool} (q : Q (.bl true) H) : rIsi K [.bl a, .ty "bool"] H Q := w_isi (.ty _) (.base (.bl _)) (kit_ty (by decide +kernel)) q
theorem w_isi_bi {a : Bool} (q : Q (.bl true) H) : rIsi K [.bl a, .ty "int"] H Q := w_isi (.ty _) (.base (.bl _)) (kit_ty (by decide +kernel)) q
theorem w_isi_ss {a : Str} (q : Q (.bl true) H) : rIsi K [.str a, .ty "str"] H Q := w_isi (.ty _) (.base (.str _)) (kit_ty (by decide +kernel)) q
theorem w_isi_is {a : Int} (q : Q (.bl false) H) : rIsi K [.int a, .ty "str"] H Q := w_isi (.ty _) (.base (.int _)) (kit_ty (by decide +kernel)) q
theorem w_isi_tt {xs : List V} (h : H p = some (.tup xs)) (q : Q (.bl true) H) : rIsi K [.ref p, .ty "tuple"] H Q := w_isi (.ty _) (.base (.tup h)) (kit_ty (by decide +kernel)) q
theorem w_isi_tl {xs : List V} (h : H p = some (.tup xs)) (q : Q (.bl false) H) : rIsi K [.ref p, .ty "list"] H Q := w_isi (.ty _) (.base (.tup h)) (kit_ty (by decide +kernel)) q
theorem w_isi_ll {xs : List V} (h : H p = some (.lst xs)) (q : Q (.bl true) H) : rIsi K [.ref p, .ty "list"] H Q := w_isi (.ty _) (.base (.lst h)) (kit_ty (by decide +kernel)) q
theorem w_isi_lt {xs : List V} (h : H p = some (.lst xs)) (q : Q (.bl false) H) : rIsi K [.ref p, .ty "tuple"] H Q := w_isi (.ty _) (.base (.lst h)) (kit_ty (by decide +kernel)) q
theorem w_isi_ti {xs : List V} (h : H p = some (.tup xs)) (q : Q (.bl false) H) : rIsi K [.ref p, .ty "int"] H Q := w_isi (.ty _) (.base (.tup h)) (kit_ty (by decide +kernel)) q
theorem w_isi_tb {xs : List V} (h : H p = some (.tup xs)) (q : Q (.bl false) H) : rIsi K [.ref p, .ty "bool"] H Q := w_isi (.ty _) (.base (.tup h)) (kit_ty (by decide +kernel)) q
theorem w_isi_ts {xs : List V} (h : H p = some (.tup xs)) (q : Q (.bl false) H) : rIsi K [.ref p, .ty "str"] H Q := w_isi (.ty _) (.base (.tup h)) (kit_ty (by decide +kernel)) q
theorem w_isi_li {xs : List V} (h : H p = some (.lst xs)) (q : Q (.bl false) H) : rIsi K [.ref p, .ty "int"] H Q := w_isi (.ty _) (.base (.lst h)) (kit_ty (by decide +kernel)) q
theorem w_isi_lb {xs : List V} (h : H p = some (.lst xs)) (q : Q (.bl false) H) : rIsi K [.ref p, .ty "bool"] H Q := w_isi (.ty _) (.base (.lst h)) (kit_ty (by decide +kernel)) q
theorem w_isi_ls {xs : List V} (h : H p = some (.lst xs)) (q : Q (.bl false) H) : rIsi K [.ref p, .ty "str"] H Q := w_isi (.ty _) (.base (.lst h)) (kit_ty (by decide +kernel)) q
theorem w_gcd {a b : Int} (q : Q (.int (Nat.gcd a.natAbs b.natAbs : Nat)) H) : rGcd [.int a, .int b] H Q := ⟨a, b, rfl, q⟩
theorem w_callN {n m : Nat} {sp : Sp} {gV : List V → List V → List V} {E : XK} {t1 t2 : TA} (h : t1 σ H fun vs H1 => t2 σ H1 fun zs H2 => vs.length = n ∧ zs.length = m ∧ sp (gV vs zs) H2 Q E) : tCallN n m sp gV E t1 t2 σ H Q := h
theorem w_callS {sp : Sp} {E : L2.St → XK} {t1 : TA} (h : t1 σ H fun vs H1 => sp vs H1 Q (E σ)) : tCallS sp E t1 σ H Q := h
theorem same_of {H H' : Hp} {p : Addr} {o : HO} (s : Same H H') (n : H' p = none) : Same H (upd H' p o) := fun b x e => by
  rw [upd_ne (ne_of_none (s b x e) n)]
  exact s b x e
theorem same_mut {H H' : Hp} {p : Addr} {o : HO} (s : Same H H') (n : H p = none) : Same H (upd H' p o) := fun b x e => by
  rw [upd_ne (ne_of_none e n)]
  exact s b x e
theorem w_dnew (h : ∀ d, H d = none → Q (.ref d) (upd H d (.dK []))) : tDNewK σ H Q := h
theorem w_dput {td ty tv : TE} (h : tv σ H fun v H1 => td σ H1 fun x H2 => ty σ H2 fun y H3 => ∃ a H4, x = .ref a ∧ DPut H3 a y v H4 ∧ D.nx σ H4) : sDPut td ty tv D σ H := h
theorem w_din {ty td : TE} (h : ty σ H fun y H1 => td σ H1 fun x H2 => ∃ a o, x = .ref a ∧ DGet H2 a y o ∧ Q (.bl o.isSome) H2) : tDIn ty td σ H Q := h
theorem w_dnin {ty td : TE} (h : ty σ H fun y H1 => td σ H1 fun x H2 => ∃ a o, x = .ref a ∧ DGet H2 a y o ∧ Q (.bl (!o.isSome)) H2) : tDNotIn ty td σ H Q := h
theorem w_iTup {tl : TE} {R : It → Hp → Prop} (h : tl σ H fun x H1 => ∃ a, x = .ref a ∧ (∃ xs, SqT K H1 a xs) ∧ R (Itt K a) H1) : iTup K tl σ H R := h
theorem w_iList {tl : TE} {R : It → Hp → Prop} (h : tl σ H fun x H1 => ∃ a, x = .ref a ∧ (∃ xs, SqL K H1 a xs) ∧ R (Itl K a) H1) : iList K tl σ H R := h
theorem w_lc {wi : TI} {ivs : List Nat} (h : wi σ H fun J H1 => ∀ Dl, H1 Dl = none → ∃ W : Nat → Nat → Hp → Prop, (∃ m, W 0 m (upd H1 Dl (.lst []))) ∧ ∀ i m H, W i m H →
  (J.stop i H ∧ Q (.ref Dl) H) ∨ (J.go i H ∧ ∃ Nx : Hp → Prop, (∀ H', Nx H' → ∃ m', m' < m ∧ W (i + 1) m' H') ∧ ∀ x H', J.yld i H x H' → g x (wipe σ ivs) H' fun σ2 H2 => wipe σ2 ivs = wipe σ ivs ∧ tt σ2 H2 fun b H3 =>
    if b = true then te σ2 H3 fun y H4 => ∃ acc, H4 Dl = some (.lst acc) ∧ acc.length < sizeLine ∧ Nx (upd H4 Dl (.lst (acc ++ [y]))) else Nx H3)) : tLc wi g tt te ivs σ H Q := h
theorem w_yes {R : Bool → Hp → Prop} (h : R true H) : tYes σ H R := h
theorem w_opin {neg : Bool} {xs : List V} (hs : SqL K H p xs ∨ SqT K H p xs) (hx : flatV x = true) (ha : xs.all flatV = true) (q : Q (.bl (if neg then !inV x xs else inV x xs)) H) : rIn K neg x (.ref p) H Q := ⟨p, xs, rfl, hs, hx, ha, q⟩
theorem w_isN (q : Q (.bl (decide (x = .non))) H) : (V.non = V.non ∧ Q (.bl (decide (x = .non))) H) := ⟨rfl, q⟩
theorem w_bm {T : String} {r : V → List V → Hp → VK → Prop} {to : TE} {tl : TA} (h : to σ H fun x H1 => tyV K T x H1 ∧ tl σ H1 fun xs H2 => r x xs H2 Q) : tBM K T r to tl σ H Q := h
theorem w_tyL {xs : List V} {R : Prop} (h : H p = some (.lst xs)) (q : R) : tyV K "list" (.ref p) H ∧ R := ⟨Or.inl ⟨rfl, xs, .inl (.inl h)⟩, q⟩
theorem w_app {xs : List V} (h : H p = some (.lst xs)) (l : xs.length < 100000) (q : Q .non (upd H p (.lst (xs ++ [v])))) : rAppend (.ref p) [v] H Q := ⟨p, xs, v, rfl, rfl, h, Nat.lt_of_lt_of_le l (by decide), q⟩
theorem w_bm0 {T : String} {r : V → List V → Hp → VK → Prop} {to : TE} (h : to σ H fun x H1 => tyV K T x H1 ∧ r x [] H1 Q) : tBM0 K T r to σ H Q := h
theorem w_rev {xs : List V} (h : H p = some (.lst xs)) (q : Q .non (upd H p (.lst xs.reverse))) : rReverse (.ref p) [] H Q := ⟨p, xs, rfl, rfl, h, q⟩
/-- pools -/
def IsPool (o : HO) : Prop := ∃ (c k : Int) (b : Bool) (s : Int), o = .lst [.int c, .int k, .bl b, .int s]
theorem upd_of {a b : Addr} {o : HO} (h : H b = none) {u : HO} (e : H a = some u) : (upd H b o) a = some u := by rw [upd_ne (ne_of_none e h)]; exact e
end Z
local macro_rules | `(tactic| walk_at "sz") => `(tactic| first | omega | (split <;> omega) | ((repeat' split) <;> omega) | (simp only [List.length_map]; (repeat' split) <;> omega))
local macro_rules | `(tactic| walk_at "hp") => `(tactic| first
  | assumption
  | exact L2.upd_same
  | ((refine' Z.upd_of ?h1 ?h2); (case h1 => assumption); (case h2 => walk_at "hp"))
  | ((refine' Z.upd_skip ?h1 ?h2); (case h1 => first | assumption | (apply Ne.symm; assumption)); (case h2 => walk_at "hp")))
local macro_rules | `(tactic| walk_at "cond") => `(tactic| first
  | exact L2.wide_mul (a := 200) (b := 200) (by omega) (by omega) (by decide) (by decide) (by decide)
  | exact L2.wide_div (b := 200) (by omega) (by omega) (by decide) (by decide)
  | exact ⟨by omega, by omega⟩
  | omega
  | exact (show (0 : Int) < _ by omega)
  | exact Or.inl ⟨by omega, by omega⟩
  | exact Or.inr ⟨by omega, by omega⟩
  | exact ⟨by omega, by omega, by decide⟩)
local macro_rules | `(tactic| walk_at "same") => `(tactic| first
  | assumption
  | exact L2.Same.refl _
  | (refine Z.same_of ?_ (by assumption); walk_at "same")
  | (refine Z.same_mut ?_ (by assumption); walk_at "same")
  | exact L2.Same.trans (by assumption) (by walk_at "same"))
local macro_rules | `(tactic| walk_at "seq") => `(tactic| first
  | assumption
  | (refine Or.inl (Or.inl ?_); walk_at "hp")
  | ((refine' L2.Same.seq ?se ?sh); (case sh => assumption); (case se => walk_at "same"))
  | ((refine' Evl.ex_t ?se ?sh); (case sh => assumption); (case se => walk_at "same")))
local macro_rules | `(tactic| walk_at "ar") => `(tactic| first
  | omega
  | (simp only [List.length_map, List.length_cons, List.length_nil]; omega))
local macro_rules | `(tactic| walk_at "w1") => `(tactic| first
  | with_reducible refine Z.w_seq ?_
  | with_reducible refine Z.w_asg ?_
  | with_reducible refine Z.w_op ?_
  | ((with_reducible refine' Z.w_var ?wv ?_); case wv => exact rfl)
  | with_reducible refine Z.w_c ?_
  | with_reducible refine Z.w_rI0 ?_
  | ((with_reducible refine' Z.w_gname ?we ?_); case we => (simp only [List.set_cons_zero, List.set_cons_succ] <;> rfl))
  | with_reducible refine Z.w_cons ?_
  | with_reducible refine Z.w_nil ?_
  | with_reducible refine Z.w_ifs ?_
  | with_reducible refine Z.w_test ?_
  | with_reducible refine Z.w_B ?_
  | with_reducible refine Z.w_bl ?_
  | with_reducible refine Z.w_rEqI ?_
  | with_reducible refine Z.w_rNeI ?_
  | with_reducible refine Z.w_cb ?_
  | with_reducible refine Z.w_call0 ?_
  | with_reducible refine Z.w_call ?_
  | with_reducible refine Z.w_isi_ii ?_
  | with_reducible refine Z.w_isi_ib ?_
  | with_reducible refine Z.w_isi_bb ?_
  | with_reducible refine Z.w_isi_bi ?_
  | with_reducible refine Z.w_isi_ss ?_
  | with_reducible refine Z.w_isi_is ?_
  | ((with_reducible refine' Z.w_isi_tt ?wh ?_); (case wh => walk_at "hp"))
  | ((with_reducible refine' Z.w_isi_tl ?wh ?_); (case wh => walk_at "hp"))
  | ((with_reducible refine' Z.w_isi_ll ?wh ?_); (case wh => walk_at "hp"))
  | ((with_reducible refine' Z.w_isi_lt ?wh ?_); (case wh => walk_at "hp"))
  | ((with_reducible refine' Z.w_isi_ti ?wh ?_); (case wh => walk_at "hp"))
  | ((with_reducible refine' Z.w_isi_tb ?wh ?_); (case wh => walk_at "hp"))
  | ((with_reducible refine' Z.w_isi_ts ?wh ?_); (case wh => walk_at "hp"))
  | ((with_reducible refine' Z.w_isi_li ?wh ?_); (case wh => walk_at "hp"))
  | ((with_reducible refine' Z.w_isi_lb ?wh ?_); (case wh => walk_at "hp"))
  | ((with_reducible refine' Z.w_isi_ls ?wh ?_); (case wh => walk_at "hp"))
  | with_reducible refine Z.w_tand ?_
  | with_reducible refine Z.w_tor ?_
  | with_reducible refine Z.w_tnot ?_
  | with_reducible refine Z.w_ret ?_
  | with_reducible refine Z.w_next ?_
  | with_reducible refine Z.w_un ?_
  | with_reducible refine Z.w_rU ?_
  | with_reducible refine Z.w_tup ?_
  | with_reducible refine Z.w_lst ?_
  | with_reducible refine Z.w_par ?_
  | ((with_reducible refine' Z.w_par2 ?we ?_); case we => (simp only [List.set_cons_zero, List.set_cons_succ] <;> rfl))
  | with_reducible refine Z.w_gsub ?_
  | with_reducible refine Z.w_andV ?_
  | with_reducible refine Z.w_orV ?_
  | with_reducible refine Z.w_notV ?_
  | with_reducible refine Z.w_ifV ?_
  | with_reducible refine Z.w_drop ?_
  | with_reducible refine Z.w_break ?_
  | with_reducible refine Z.w_cont ?_
  | with_reducible refine Z.w_gcons ?_
  | with_reducible refine Z.w_gnil ?_
  | with_reducible refine Z.w_for ?_
  | with_reducible refine Z.w_rng1 ?_
  | with_reducible refine Z.w_bits ?_
  | with_reducible refine Z.w_callN ?_
  | with_reducible refine Z.w_callS ?_
  | with_reducible refine Z.w_gcd ?_
  | with_reducible refine Z.w_dnew (fun d hd => ?_)
  | with_reducible refine Z.w_dput ?_
  | with_reducible refine Z.w_din ?_
  | with_reducible refine Z.w_dnin ?_
  | with_reducible refine Z.w_iTup ?_
  | with_reducible refine Z.w_iList ?_
  | with_reducible refine Z.w_lc ?_
  | with_reducible refine Z.w_yes ?_
  | ((with_reducible refine' ⟨_, rfl, ⟨_, ?wh⟩, ?_⟩); (case wh => walk_at "seq"))
  | with_reducible refine Z.w_ex1 ?_
  | ((with_reducible refine' Z.w_ixH ?wh ?wa ?_); (case wh => walk_at "hp"); (case wa => exact rfl))
  | ((with_reducible refine' Z.w_ixTH ?wh ?wa ?_); (case wh => walk_at "hp"); (case wa => exact rfl))
  | ((with_reducible refine' Z.w_gtupH ?wh ?wa ?_); (case wh => walk_at "hp"); (case wa => exact rfl))
  | ((with_reducible refine' Z.w_setLu ?wh ?wa ?_); (case wh => exact rfl); (case wa => (simp only [Int.reduceToNat, List.set_cons_zero, List.set_cons_succ] <;> rfl)))
  | ((with_reducible refine' Z.w_setLh ?wg ?wh ?wa ?_); (case wg => walk_at "hp"); (case wh => exact rfl); (case wa => (simp only [Int.reduceToNat, List.set_cons_zero, List.set_cons_succ] <;> rfl)))
  | ((with_reducible refine Z.w_rI ?wc ?_); (case wc => walk_at "cond"))
  | with_reducible refine Or.inl ⟨_, rfl, ?_⟩
  | with_reducible refine Or.inr ⟨_, rfl, ?_⟩
  | ((with_reducible refine' ⟨_, _, rfl, Or.inl ?wh, ?_⟩); (case wh => walk_at "seq"))
  | ((with_reducible refine' ⟨_, _, rfl, Or.inr ?wh, ?_⟩); (case wh => walk_at "seq"))
  | ((with_reducible refine' Z.w_ixL ?wh ?wa ?_); (case wh => assumption); (case wa => assumption))
  | with_reducible refine ⟨_, rfl, ?_⟩
  | with_reducible refine ⟨_, _, rfl, ?_⟩
  | ((with_reducible refine ⟨?wl, fun q hq' => ?_⟩); (case wl => exact Z.sz4 (by simp)))
  | with_reducible refine Z.w_ibT ?_
  | with_reducible refine Z.w_ibF ?_
  | with_reducible refine Z.w_ibNT ?_
  | with_reducible refine Z.w_ibNF ?_
  | ((with_reducible refine Z.w_iteT ?wh ?_); (case wh => walk_at "ar"))
  | ((with_reducible refine Z.w_iteF ?wh ?_); (case wh => walk_at "ar"))
  | ((with_reducible refine Z.w_iteNT ?wh ?_); (case wh => walk_at "ar"))
  | ((with_reducible refine Z.w_iteNF ?wh ?_); (case wh => walk_at "ar"))
  | with_reducible refine ⟨rfl, ?_⟩
  | ((with_reducible refine' Z.w_ixH ?wh ?wa ?_); (case wh => walk_at "hp"); (case wa => assumption))
  | ((with_reducible refine' Z.w_ixTH ?wh ?wa ?_); (case wh => walk_at "hp"); (case wa => assumption))
  | ((with_reducible refine' Z.w_ixL ?wh ?wa ?_); (case wh => walk_at "seq"); (case wa => assumption))
  | ((with_reducible refine' Z.w_ixT ?wh ?wa ?_); (case wh => walk_at "seq"); (case wa => assumption))
  | ((with_reducible refine Z.w_iteF ?wh ?_); (case wh => (intro h; cases h; done)))
  | ((with_reducible refine Z.w_iteT ?wh ?_); (case wh => exact rfl))
  | fail "w1")
local macro_rules | `(tactic| walk_at "wi") => `(tactic| first
  | with_reducible refine Z.w_ite (fun hc => ?_) (fun hc => ?_)
  | with_reducible refine Z.w_iteN (fun hc => ?_) (fun hc => ?_)
  | with_reducible refine Z.w_iteb (fun hc => ?_) (fun hc => ?_))
local macro_rules | `(tactic| walk_at "w") => `(tactic| repeat' walk_at "w1")
namespace OWN
open PySem PySem.Spec PyProof.Rows L2
section
variable {prog : Program} {w : World} {A : Around} {E : Value → Shared → Prop} {s : Shared}
theorem next_endG {it l : Addr} {i : Nat} {items : Array Value} {Q : Option Value → Shared → Prop} (hh : A.handled = none)
    (hit : s.heap.get? it = some (GNX.itObj l i)) (hl : s.heap.IsList l items) (hx : items[i]? = none)
    (hQ : ∀ h', Heap.ExtBut it s.heap h' → h'.get? it = some (GNX.itEnd i) → Q none { s with heap := h' }) : wpAny (model prog w) A (pyNext (.ref it)) Q E s := by
  have hT : s.TypeIs (.ref it) "list_iterator" := ⟨_, hit, rfl⟩
  obtain ⟨ol, hol, _, nl, hdl⟩ := hl
  unfold pyNext
  refine wpAny_bind (wpAny_attempt (wpAny_callSpecial?_slot (name := Str.ofString "__next__") hT slot_listiter_next
    (wpAny_call_entry slot_listiter_next hT entry_listiter_next ?_ (args_listiter_next _))))
  show wpAny _ _ (field (.ref it) 0 >>= _) _ _ s
  refine wpAny_bind (wpAny_field hit rfl (x := .ref l) rfl ?_)
  show wpAny _ _ (if (Value.ref l == Value.none) = true then _ else _) _ _ s
  rw [if_neg (show ¬ ((Value.ref l == Value.none) = true) from Bool.false_ne_true)]
  show wpAny _ _ (field (.ref it) 1 >>= _) _ _ s
  refine wpAny_bind (wpAny_field hit rfl (x := .int i 0) rfl ?_)
  show wpAny _ _ (seqItems? (.ref l) >>= _) _ _ s
  refine wpAny_bind (wpAny_seqItems hol hdl ?_)
  simp only [Int.toNat_natCast, hx]
  refine wpAny_bind (wpAny_rule (wpAny_bind (wpAny_setField hit rfl (by simp) ?_)))
  have hit2 : (s.heap.update it (Obj.mapFields (·.setIfInBounds 0 Value.none))).get? it = some (GNX.itEnd i) := by
    rw [Heap.get?_update_self _ hit (by rfl)]
    exact congrArg some (GNX.end_obj l i)
  show wpAny _ _ (newExc (.type "StopIteration") [] >>= _) _ _ _
  refine wpAny_bind ?_
  simp only [newExc, newTuple]
  refine wpAny_bind (wpAny_newObj_type ?_ (by size_fits))
  refine wpAny_bind (m := firstArgMember _ _) (wpAny_of_eq (a := Value.none) (by first | rfl | (simp only [firstArgMember]; rfl)) ?_)
  refine wpAny_newObj_type ?_ (by size_fits)
  simp only [raiseNew]
  refine wpAny_bind (wpAny_handled ?_)
  rw [show A.in1.handled = none from hh]
  refine wpAny_bind (wpAny_pure (wpAny_throw ?_))
  refine wpAny_bind (wpAny_isInstance (T := "StopIteration") (b := true) ⟨_, Heap.get?_push_size _ rfl, rfl⟩ isSubtype_stop ?_)
  exact wpAny_pure (hQ _ (((Heap.SameBut.update ..).extBut.push _).push _) (Heap.get?_push_of_some _ (Heap.get?_push_of_some _ hit2)))
theorem next_itemG {it l : Addr} {i : Nat} {items : Array Value} {x : Value} {Q : Option Value → Shared → Prop} (hit : s.heap.get? it = some (GNX.itObj l i))
    (hl : s.heap.IsList l items) (hx : items[i]? = some x)
    (hQ : ∀ h', h'.get? it = some (GNX.itObj l (i + 1)) → Heap.SameBut it s.heap h' → Q (some x) { s with heap := h' }) : wpAny (model prog w) A (pyNext (.ref it)) Q E s := by
  have hT : s.TypeIs (.ref it) "list_iterator" := ⟨_, hit, rfl⟩
  unfold pyNext
  refine wpAny_bind (wpAny_attempt (wpAny_callSpecial?_slot (name := Str.ofString "__next__") hT slot_listiter_next
    (wpAny_call_entry slot_listiter_next hT entry_listiter_next ?_ (args_listiter_next _))))
  exact GNX.next_item (Q := fun v s' => wpAny _ _ _ _ _ s') hit hl hx fun h' h1 h2 => wpAny_pure (hQ h' h1 h2)
end
section
variable {X : Cx} {pins : List (Addr × Obj)} {σ : L2.St} {H : Hp} {s : Shared} {C fl fi a : Addr} {n : Nat} {A1 : Around}
/-- a call of an own def with one argument, from within a built-in -/
theorem own_call {f : Addr} {fd : FuncData} {ps : List Str} {sp : Sp} {EI : XK} {Q : VK} {Ex : Value → Shared → Prop} (sb : Sub X n A1) (F : FnOk X.prog X.w X.K X.mg X.base CX0 n f fd ps sp) (b : Binds X.K fd ps []) (I : Inv X pins σ H s) (hsp : sp [.ref a] H Q EI) :
    wpAny (model X.prog X.w) A1 (call (.ref f) [.ref a]) (fun u s' => ∃ v H', Inv X pins σ H' s' ∧ RelV v u ∧ Q v H') Ex s := by
  have e0 : Env0 X.prog X.w X.K X.mg X.base A1 X.stack s H := by
    have e := I.env0
    exact ⟨by rw [sb.fr]; exact e.frames, e.mod, e.bs, e.bsz, e.funs, e.frf, e.hok, e.bare⟩
  have hl := F.len _ _ _ _ hsp
  have r2 : Vals [V.ref a] [Value.ref a] := .cons rfl .nil
  refine wpAny_call (codeAny_mono (F.run A1 X.stack s H ⟨[.ref a], []⟩ [.ref a] [.ref a] Q EI sb.room e0 (by
    have := b s [.ref a] I.kIn (by simpa using hl)
    simpa using this) r2 hsp) fun r s' hq => ?_)
  cases r with
  | error e => exact False.elim hq
  | ok fl =>
    cases fl with
    | ret u => exact I.after hq
    | next => exact False.elim hq
    | brk => exact False.elim hq
    | cont => exact False.elim hq
/-- an own __len__ -/
structure LnC (K : PySem.W.Frag) (C fl : Addr) : Prop where
  ln : PySem.W.findIn K (.ref C) "__len__" = some (some (.ref fl))
  lt : PySem.W.typeIn K (.ref fl) = some (.type "function")
theorem own_len {fd : FuncData} {ps : List Str} {sp : Sp} {Q : VK} {dx : Addr} {fs : List (Str × V)} {Ex : Value → Shared → Prop} (sb : Sub X n A1.in1) (hc : LnC X.K C fl) (F : FnOk X.prog X.w X.K X.mg X.base CX0 n fl fd ps sp) (b : Binds X.K fd ps []) (I : Inv X pins σ H s) (ha : H a = some (.ins C dx fs))
    (hsp : sp [.ref a] H (fun v H' => ∃ k : Nat, v = .int k ∧ k < 2 ^ 60 ∧ Q (.int k) H') E0) :
    wpAny (model X.prog X.w) A1 (call (.builtin "len") [.ref a]) (fun u s' => ∃ (k : Nat) (tk : Tok) (H' : Hp), u = .int k tk ∧ k < 2 ^ 60 ∧ Inv X pins σ H' s' ∧ Q (.int k) H') Ex s := by
  obtain ⟨mA, J, _⟩ := ins_get I.hok ha
  obtain ⟨od, J, _⟩ := J.look
  refine Calls.call_function_entry kind_len plain_len entry_len (args_len1 _) ?_
  unfold Builtin.«len»
  refine wpAny_bind (m := oneArg "len" _) (wpAny_pure ?_)
  refine wpAny_bind (m := callSpecial? (.ref a) (Str.ofString "__len__")) (PySem.W.special_fn (name := "__len__") (args := []) I.kIn J hc.ln hc.lt ?_)
  refine wpAny_mono (own_call sb F b I hsp) (fun u s' hu => ?_) fun _ _ z => z
  obtain ⟨v, H', I', r, k, rfl, hk, q⟩ := hu
  obtain ⟨t, rfl⟩ := (show ∃ t, u = Value.int k t from r)
  show wpAny _ _ _ _ _ _
  refine wpAny_bind (wpAny_holding (wpAny_pure ?_))
  refine wpAny_bind (wpAny_letGo ?_)
  show wpAny _ _ (if (k : Int) < 0 then _ else _) _ _ _
  rw [if_neg (by omega)]
  show wpAny _ _ (if (k : Int) ≥ 2 ^ 63 then _ else _) _ _ _
  rw [if_neg (by omega)]
  exact wpAny_bind (wpAny_mkInt (wpAny_pure ⟨_, rfl, k, _, H', rfl, hk, I'.kept (t' := _) (fun _ _ z => z), q⟩))
def rLenOwn (C : Addr) (sp : Sp) : List V → Hp → VK → Prop := fun xs H Q => ∃ (a dx : Addr) (fs : List (Str × V)), xs = [.ref a] ∧ H a = some (.ins C dx fs) ∧ sp [.ref a] H (fun v H' => ∃ k : Nat, v = .int k ∧ k < 2 ^ 60 ∧ Q (.int k) H') E0
/-- len(o) -/
theorem call_lenOwn {fd : FuncData} {ps : List Str} {sp : Sp} (hc : LnC X.K C fl) (F : FnOk X.prog X.w X.K X.mg X.base CX0 n fl fd ps sp) (b : Binds X.K fd ps []) (hr : Room (n + 1) X.A) : CallR X (.builtin "len") (rLenOwn C sp) := by
  intro pins s σ H xs us Q I rv h
  obtain ⟨a, dx, fs, rfl, ha, hsp⟩ := h
  obtain ⟨u, rfl, ru⟩ := rv.one
  cases ru
  refine wpAny_mono (own_len (Sub.in1 (⟨hr, rfl⟩ : Sub X (n + 1) X.A)) hc F b I ha hsp) (fun u s' hu => ?_) fun _ _ z => z
  obtain ⟨k, tk, H', rfl, hk, I', q⟩ := hu
  exact ⟨.int k, H', I', ⟨_, rfl⟩, q⟩
/-- an own __iter__ that gives an iterator over a list, and an own __len__ -/
structure ItB (K : PySem.W.Frag) (C fi fl : Addr) : Prop where
  it : PySem.W.findIn K (.ref C) "__iter__" = some (some (.ref fi))
  itF : PySem.W.isFn K (.ref fi) = true
  ln : LnC K C fl
theorem upd_swap {H : Hp} {q it : Addr} {o1 o2 o3 o4 : HO} (h : q ≠ it) : upd (upd (upd (upd H q o1) it o2) it o3) q o4 = upd (upd H q o4) it o3 := by
  funext b
  by_cases h1 : b = q
  · subst h1
    rw [upd_same, upd_ne h, upd_same]
  · rw [upd_ne h1]
    by_cases h2 : b = it
    · subst h2
      rw [upd_same, upd_same]
    · rw [upd_ne h2, upd_ne h2, upd_ne h1, upd_ne h2, upd_ne h1]
theorem sqL_upd {K : PySem.W.Frag} {H : Hp} {l b : Addr} {o : HO} {xs : List V} (h : SqL K H l xs) (n : l ≠ b) : SqL K (upd H b o) l xs := by
  rcases h with (h | ⟨o', h⟩) | h
  · exact .inl (.inl (by rw [upd_ne n]; exact h))
  · exact .inl (.inr ⟨o', by rw [upd_ne n]; exact h⟩)
  · exact .inr h
theorem it_loop {q l it : Addr} {ys : List V} {H0 : Hp} {Rs : Result → Shared → Prop} (hh : A1.in1.handled = none) (hS : SqL X.K H0 l ys) (n1 : l ≠ q) (n2 : l ≠ it) (n3 : q ≠ it) (hz : ys.length ≤ sizeLine)
    (hdone : ∀ s, Inv X pins σ (upd (upd H0 q (.lst ys)) it (ItE it ys.length)) s → Rs (.ok (.ret .none)) s) :
    ∀ (m i : Nat) (s : Shared), m = ys.length - i → i ≤ ys.length → Inv X pins σ (upd (upd H0 q (.lst (ys.take i))) it (ItO l it i)) s → codeAny (model X.prog X.w) A1 (.builtin "list.extend.loop" ⟨[.ref q, .ref it, .none], []⟩) Rs s := by
  intro m
  induction m with
  | zero =>
    intro i s hm hi I
    have e : i = ys.length := by omega
    subst e
    refine codeAny_builtin PySem.F.entry_extend_loop ?_
    rw [Around.under_plainId PySem.F.plain_extend_loop _]
    show wpAny _ A1.in1 (pyNext (.ref it) >>= _) _ _ s
    have hit := (I.hok it _ upd_same).1
    obtain ⟨its, rv, pl, _⟩ := I.list (sqL_upd (sqL_upd hS n1) n2)
    have hlen := rv.length
    refine wpAny_bind (next_endG hh hit pl.isList (by simp [hlen]) fun h' hx he => ?_)
    refine wpAny_pure (hdone _ ?_)
    have I1 : Inv X pins σ (upd (upd (upd H0 q (.lst (ys.take ys.length))) it (ItO l it ys.length)) it (ItE it ys.length)) { s with heap := h' } :=
      I.write (x := it) (e := it) (t' := s.toks) (by rw [upd_same]; exact trivial) (.inl rfl) (fun b u hb e => hx b u hb e) ⟨_, he⟩ (itE_ok he)
    rw [upd_upd, List.take_length] at I1
    exact I1
  | succ m ih =>
    intro i s hm hi I
    have hlt : i < ys.length := by omega
    refine codeAny_builtin PySem.F.entry_extend_loop ?_
    rw [Around.under_plainId PySem.F.plain_extend_loop _]
    show wpAny _ A1.in1 (pyNext (.ref it) >>= _) _ _ s
    have hit := (I.hok it _ upd_same).1
    obtain ⟨its, rv, pl, _⟩ := I.list (sqL_upd (sqL_upd hS n1) n2)
    have hlen := rv.length
    obtain ⟨u, hu, ru⟩ := rv.get (List.getElem?_eq_getElem hlt)
    refine wpAny_bind (next_itemG hit pl.isList (x := u) (by simpa using hu) fun h' he hx => ?_)
    have I1 : Inv X pins σ (upd (upd (upd H0 q (.lst (ys.take i))) it (ItO l it i)) it (ItO l it (i + 1))) { s with heap := h' } :=
      I.write (x := it) (e := it) (t' := s.toks) (by rw [upd_same]; exact trivial) (.inl rfl) (fun b u hb e => (hx.2 b hb).trans e) ⟨_, he⟩ (itO_ok he)
    have hq : (upd (upd (upd H0 q (.lst (ys.take i))) it (ItO l it i)) it (ItO l it (i + 1))) q = some (.lst (ys.take i)) := by rw [upd_ne n3, upd_ne n3, upd_same]
    obtain ⟨z, is2, k, r2, hl2, e⟩ := I1.lstM hq
    have hl3 : is2.length ≤ sizeLine := by omega
    rw [List.length_take] at hl2
    show wpAny _ A1.in1 (updateSeq q (·.push u) >>= _) _ _ _
    refine wpAny_bind (wpAny_updateSeq e rfl (wpAny_pure ⟨plainId_quiet PySem.F.plain_extend_loop _, ?_⟩) (by rw [List.size_toArray]; omega) (by show (is2.toArray.push u).size ≤ sizeLine + 1; rw [Array.size_push, List.size_toArray]; omega))
    have ht : ys.take (i + 1) = ys.take i ++ [ys[i]] := by rw [List.take_add_one, List.getElem?_eq_getElem hlt]; rfl
    refine ih (i + 1) _ (by omega) hlt ?_
    have I2 := I1.lset (its' := is2 ++ [u]) (ys := ys.take (i + 1)) (t' := s.toks) (f := (·.push u)) hq e (by simp) (by rw [ht]; exact r2.append (.cons ru .nil)) (by rw [List.length_take]; omega)
    rw [upd_swap n3] at I2
    exact I2
/-- list(o) -/
def LenEnd (H : Hp) (R : Prop) : VK := fun v H' => ∃ k : Nat, v = .int k ∧ k < 2 ^ 60 ∧ (H' = H ∧ (∀ j : Nat, V.int k = .int j → j ≤ sizeLine) ∧ R)
def rListIt (K : PySem.W.Frag) (C : Addr) (spI spL : Sp) : List V → Hp → VK → Prop := fun xs H Q => ∃ (a dx : Addr) (fs : List (Str × V)), xs = [.ref a] ∧ H a = some (.ins C dx fs) ∧
  ∀ q, H q = none → spI [.ref a] (upd H q (.lst [])) (fun v H1 => ∃ (l it : Addr) (ys : List V) (Hb : Hp) (fs' : List (Str × V)) (dx' : Addr), v = .ref it ∧ H1 = upd (upd Hb q (.lst [])) it (ItO l it 0) ∧ l ≠ q ∧ l ≠ it ∧ q ≠ it ∧ ys.length ≤ 1000 ∧ SqL K Hb l ys ∧ H1 a = some (.ins C dx' fs') ∧
    spL [.ref a] H1 (LenEnd H1 (Q (.ref q) (upd (upd Hb q (.lst ys)) it (ItE it ys.length)))) E0) E0
theorem own_hintL {fd : FuncData} {ps : List Str} {sp : Sp} {dx : Addr} {fs : List (Str × V)} {Qb : Bool → Shared → Prop} {Ex : Value → Shared → Prop} (sb : Sub X n A1.in1) (hc : LnC X.K C fl) (F : FnOk X.prog X.w X.K X.mg X.base CX0 n fl fd ps sp) (b : Binds X.K fd ps []) (I : Inv X pins σ H s) (ha : H a = some (.ins C dx fs))
    {R : Prop} (hsp : sp [.ref a] H (LenEnd H R) E0) (hq : ∀ b s', R → Inv X pins σ H s' → Qb b s') :
    wpAny (model X.prog X.w) A1 (Builtin.List.listLengthHint (.ref a)) Qb Ex s := by
  obtain ⟨mA, J, _⟩ := ins_get I.hok ha
  obtain ⟨od, J, _⟩ := J.look
  unfold Builtin.List.listLengthHint
  refine wpAny_bind (wpAny_bind (J.type.here ((PySem.W.looks_findIn I.kIn hc.ln).here ?_)))
  refine PySem.W.KFB.if_not rfl ?_
  rw [if_pos (show (some (Value.ref fl)).isSome = true from rfl)]
  refine wpAny_bind (wpAny_rule ?_)
  refine wpAny_bind (wpAny_attempt (wpAny_mono (own_len (Q := fun v H' => H' = H ∧ (∀ j : Nat, v = .int j → j ≤ sizeLine) ∧ R) (Ex := fun _ _ => False) sb hc F b I ha hsp) (fun u s' hu => ?_) fun e s' he => he.elim))
  obtain ⟨k, tk, H', rfl, hk, I', rfl, hz, hR⟩ := hu
  have hz' := hz k rfl
  show wpAny _ _ _ _ _ _
  refine wpAny_bind (wpAny_pure ?_)
  show wpAny _ _ (if Builtin.List.listTooLong ((k : Int)).toNat = true then _ else pure ((k : Int) != 0)) _ _ _
  rw [if_neg (by rw [Int.toNat_natCast, notLongL hz']; exact Bool.false_ne_true)]
  exact wpAny_pure (hq _ _ hR I')
theorem listiter_next : typeLookup (.type "list_iterator") "__next__" = pure (some (.builtin "list_iterator.__next__")) := slot_listiter_next.lookup
theorem call_listIt {fdI fdL : FuncData} {psI psL : List Str} {spI spL : Sp} (hc : ItB X.K C fi fl) (FI : FnOk X.prog X.w X.K X.mg X.base CX0 n fi fdI psI spI) (bI : Binds X.K fdI psI []) (FL : FnOk X.prog X.w X.K X.mg X.base CX0 n fl fdL psL spL) (bL : Binds X.K fdL psL []) (hr : Room (n + 3) X.A) (hh : X.A.handled = none) : CallR X (.type "list") (rListIt X.K C spI spL) := by
  intro pins s σ H xs us Q I rv h
  obtain ⟨a, dx, fs, rfl, ha, hq⟩ := h
  obtain ⟨u, rfl, ru⟩ := rv.one
  cases ru
  have sb : Sub X (n + 1) X.A.in1.in1 := Sub.in1 (Sub.in1 (⟨hr, rfl⟩ : Sub X (n + 3) X.A))
  refine callType_codes (Q₁ := fun obj s₁ => obj = .ref s.heap.objs.size ∧ s₁ = { s with heap := s.heap.push { cls := .type "list", data := .seq #[] } }) PySem.F.called_list (PySem.F.typeCall_list_1 _) PySem.F.entry_list_init
    (code_list_new _ ⟨rfl, rfl⟩) fun obj s₁ h₁ => ?_
  obtain ⟨rfl, rfl⟩ := h₁
  have hS : (s.heap.push { cls := .type "list", data := .seq #[] }).get? s.heap.objs.size = some { cls := .type "list", data := .seq #[] } := Heap.get?_push_size _ rfl
  refine ⟨⟨_, hS, rfl⟩, PySem.F.args_list_init_2 _ _, ?_⟩
  have fr : H s.heap.objs.size = none := I.hok.fresh (Nat.le_refl _)
  have hrun := hq _ fr
  have I1 : Inv X pins σ (upd H s.heap.objs.size (.lst [])) { s with heap := s.heap.push { cls := .type "list", data := .seq #[] } } := I.lnew (its := []) (t' := s.toks) .nil (Nat.zero_le _)
  show wpAny _ _ (do let old ← Builtin.List.listItems (.ref s.heap.objs.size); Builtin.List.listUpdate (.ref s.heap.objs.size) (fun _ => #[]); letGo old.toList.reverse; Builtin.List.listExtendWith (.ref s.heap.objs.size) (.ref a) .none) _ _ _
  refine wpAny_bind ?_
  unfold Builtin.List.listItems
  refine wpAny_bind (wpAny_seqItems hS rfl (wpAny_pure ?_))
  show wpAny _ _ (updateSeq s.heap.objs.size (fun _ => #[]) >>= fun _ => letGo (#[] : Array Value).toList.reverse >>= fun _ => Builtin.List.listExtendWith (.ref s.heap.objs.size) (.ref a) .none) _ _ _
  refine wpAny_bind (wpAny_updateSeq hS rfl ?_)
  have I2 := I1.lset (f := fun _ => #[]) (its := []) (its' := []) (ys := []) (t' := s.toks) upd_same hS rfl .nil (Nat.zero_le _)
  rw [upd_upd] at I2
  refine wpAny_bind (wpAny_letGo ?_)
  have ha2 : upd H s.heap.objs.size (.lst []) a = some (.ins C dx fs) := by rw [upd_ne (ne_of_none ha fr)]; exact ha
  have hne : s.heap.objs.size ≠ a := Ne.symm (ne_of_none ha fr)
  generalize s.heap.objs.size = q at *
  obtain ⟨mA, J, _⟩ := ins_get I2.hok ha2
  obtain ⟨od, J, _⟩ := J.look
  obtain ⟨m0, hF⟩ := I2.fr
  unfold Builtin.List.listExtendWith
  refine wpAny_bind (J.type.here ?_)
  have h1 : Builtin.List.listSameRef (.ref q) (.ref a) = false := by simp [Builtin.List.listSameRef, hne]
  have h2 : (Value.ref C == Value.type "list") = false := rfl
  have h3 : (Value.ref C == Value.type "tuple") = false := rfl
  simp only [h1, h2, h3, Bool.or_false, Bool.false_eq_true, if_false]
  refine wpAny_bind (PySem.W.owit_iter hF I2.ok.mod.kin J hc.it hc.itF ?_)
  refine wpAny_mono (own_call (sb.mono (Nat.le_succ _)) FI bI I2 hrun) (fun u s' hu => ?_) fun _ _ z => z
  obtain ⟨v, H1, J1, rv1, l, it, ys, Hb, fs', dx', rfl, rfl, n1, n2, n3, hy, hS1, ha3, hlen⟩ := hu
  cases rv1
  have hz : ys.length ≤ sizeLine := Nat.le_trans hy (by decide)
  have hit := (J1.hok it _ upd_same).1
  have hT : s'.TypeIs (.ref it) "list_iterator" := ⟨_, hit, rfl⟩
  unfold PySem.W.OwitIt
  refine wpAny_specialOf (name := "__next__") hT listiter_next ?_
  refine wpAny_bind (wpAny_holding (own_hintL sb.in1 hc.ln FL bL J1 ha3 hlen fun b s2 hR J2 => ?_))
  have fin : ∀ s3, Inv X pins σ (upd (upd Hb q (.lst [])) it (ItO l it 0)) s3 → codeAny (model X.prog X.w) X.A.in1 (.builtin "list.extend.loop" ⟨[.ref q, .ref it, .none], []⟩) (wants (fun r s₂ => r = .none ∧ EP X pins σ Q (.ref q) s₂) X.xe) s3 := fun s3 J3 =>
    it_loop (A1 := X.A.in1) (H0 := Hb) (ys := ys) hh hS1 n1 n2 n3 hz (fun s4 J4 => ⟨rfl, .ref q, _, J4, rfl, hR⟩) ys.length 0 s3 rfl (Nat.zero_le _) J3
  refine wpAny_ite_split (fun _ => ?_) (fun _ => wpAny_pure ⟨plainId_quiet PySem.F.plain_extend_loop _, fin _ J2⟩)
  have hq0 : (upd (upd Hb q (.lst [])) it (ItO l it 0)) q = some (.lst []) := by rw [upd_ne n3, upd_same]
  obtain ⟨z, its, k, r3, hl3, e3⟩ := J2.lstM hq0
  cases r3
  refine wpAny_bind (wpAny_rule ?_)
  refine wpAny_bind ?_
  show wpAny _ _ (updateSeq q (·.push .none) >>= fun _ => updateSeq q (·.pop)) _ _ _
  refine wpAny_bind (wpAny_updateSeq e3 rfl ?_)
  have I5 := J2.lset (f := (·.push Value.none)) (its' := [Value.none]) (ys := [.non]) (t' := s2.toks) hq0 e3 (by simp) (.cons rfl .nil) (by rw [List.length_singleton, sizeLine_eq]; decide)
  obtain ⟨z4, its4, k4, r4, hl4, e4⟩ := I5.lstM upd_same
  obtain ⟨u4, rfl, ru4⟩ := r4.one
  refine wpAny_updateSeq e4 rfl ?_ (by show 1 ≤ sizeLine; rw [sizeLine_eq]; decide) (by show 0 ≤ sizeLine + 1; exact Nat.zero_le _)
  refine wpAny_pure ⟨plainId_quiet PySem.F.plain_extend_loop _, fin _ ?_⟩
  have I6 := I5.lset (f := (·.pop)) (its := [u4]) (its' := []) (ys := []) (t' := s2.toks) upd_same e4 (by rfl) .nil (Nat.zero_le _)
  rw [upd_upd] at I6
  have hH : upd (upd (upd Hb q (.lst [])) it (ItO l it 0)) q (.lst []) = upd (upd Hb q (.lst [])) it (ItO l it 0) := by
    funext b
    by_cases hb : b = q
    · rw [hb, upd_same, hq0]
    · rw [upd_ne hb]
  rw [hH] at I6
  exact I6
end
end OWN

namespace DT
open PySem PySem.Spec PyProof.Rows L2
/-- what is known of a tuple that was made from a list -/
def Bare (o : Obj) : Prop := o.cls = .type "tuple" ∧ o.dict = none
section
variable {X : Cx}
def rTupZ (K : PySem.W.Frag) : List V → Hp → VK → Prop := fun xs H Q => ∃ (p : Addr) (ys : List V), xs = [.ref p] ∧ SqL K H p ys ∧ ∀ (l : Addr) (o : Obj), H l = none → Bare o → Q (.ref l) (upd H l (.frz o (.tup ys)))
theorem call_tupleZ : CallR X (.type "tuple") (rTupZ X.K) := by
  intro pins s σ H xs us Q I r h
  obtain ⟨p, ys, rfl, hq, q⟩ := h
  obtain ⟨u, rfl, rx⟩ := vals1 r
  cases rx
  obtain ⟨its, r', pl, hz⟩ := I.list hq
  have hlen := r'.length
  refine call_tuple_list pl.isList (fun h' kp => ?_) (by simp only [List.size_toArray] <;> omega)
  have I1 : Inv X pins σ H { s with heap := h' } := I.kept (t' := s.toks) kp
  have I2 : Inv X pins σ (upd H h'.objs.size (.frz { cls := .type "tuple", data := .seq its.toArray } (.tup ys))) { s with heap := h'.push { cls := .type "tuple", data := .seq its.toArray } } :=
    I1.laid (t' := s.toks) (fun b o e => Heap.get?_push_of_some _ e) (Nat.le_refl _) (show ObjOk X.prog X.w _ _ _ (.frz _ (.tup ys)) from ⟨Heap.get?_push_size _ rfl, hz, its, r', IsTup.new _ _⟩)
  exact ⟨.ref h'.objs.size, _, I2, rfl, q _ _ (I1.hok.fresh (Nat.le_refl _)) ⟨rfl, rfl⟩⟩
theorem pairs_of2 {pins : List (Addr × Obj)} {σ : L2.St} {H : Hp} {s : Shared} (I : Inv X pins σ H s) : ∀ {ps : List Addr} {kvs : List (Key × V)}, PySem.Paired (fun p kv => SqT X.K H p [kV kv.1, kv.2]) ps kvs →
    ∃ (prs : List (Key × Value)) (uvs : List (Value × Value)), KV kvs prs ∧ prs.length = ps.length ∧ uvs.length = ps.length ∧ ∀ (j : Nat) (u x : Value), uvs[j]? = some (u, x) → ∃ (b : Addr) (k : Key), ps[j]? = some b ∧ prs[j]? = some (k, x) ∧ IsTup s.heap b #[u, x] ∧ keyIs k u = true
  | _, _, .nil => ⟨[], [], .nil, rfl, rfl, fun j u x e => by simp at e⟩
  | _, _, .cons (a := p) (b := kv) h t => by
    obtain ⟨prs, uvs, r, hl, hl2, hp⟩ := pairs_of2 I t
    obtain ⟨its, rv, ht, _⟩ := I.tuple h
    obtain ⟨u, y, ei, ru, ry⟩ := vals2 rv
    subst ei
    refine ⟨(kv.1, y) :: prs, (u, y) :: uvs, .cons ⟨rfl, ry⟩ r, by rw [List.length_cons, List.length_cons, hl], by rw [List.length_cons, List.length_cons, hl2], fun j u' x e => ?_⟩
    cases j with
    | zero =>
      have e' : (u, y) = (u', x) := Option.some.inj e
      obtain ⟨e1, e2⟩ := Prod.mk.inj e'
      subst e1
      subst e2
      exact ⟨p, kv.1, rfl, rfl, ht, kV_is (P := X.prog) (w := X.w) ru⟩
    | succ j =>
      obtain ⟨b, k, e1, e2, e3⟩ := hp j u' x (by simpa using e)
      exact ⟨b, k, by simpa using e1, by simpa using e2, e3⟩
def rDictT (K : PySem.W.Frag) : List V → Hp → VK → Prop := fun xs H Q => ∃ (a : Addr) (o : Obj) (ps : List Addr) (kvs : List (Key × V)), xs = [.ref a] ∧ H a = some (.frz o (.tup (ps.map V.ref))) ∧ Bare o ∧ PySem.Paired (fun p kv => SqT K H p [kV kv.1, kv.2]) ps kvs ∧
    ∀ p, H p = none → Q (.ref p) (upd H p (.dK (mergeK [] kvs)))
theorem call_dictT (hcalm : X.calm = true) : CallR X (.type "dict") (rDictT X.K) := by
  intro pins s σ H xs us Q I r q
  obtain ⟨a, o, ps, kvs, rfl, ha, ⟨hcls, hdict⟩, hp, q⟩ := q
  obtain ⟨u, rfl, rx⟩ := vals1 r
  cases rx
  obtain ⟨ho, hz, its, rv, o', ho', hc', n, hdat⟩ := (show ObjOk X.prog X.w H s.heap a (.frz o (.tup (ps.map V.ref))) from I.hok a _ ha)
  have eo : o' = o := Option.some.inj (ho'.symm.trans ho)
  subst eo
  have ei := refs_at rv
  subst ei
  rw [List.length_map] at hz
  obtain ⟨prs, uvs, rel, hl, hl2, hpr⟩ := pairs_of2 I hp
  have hP := PairArg.tuple (prog := X.prog) (w := X.w) a (ps.map Value.ref).toArray (fun j => ps.getD j 0) uvs
  refine PySem.call_dict_pairs (knd := mixKind X.prog X.w) (kvs := prs) hP (I.ok.hd hcalm) ⟨⟨o', n, ho, hc', hdict, hdat⟩, ?_, fun j k v e => ?_⟩ ⟨by rw [hl, hl2], fun i key v e => ?_⟩ (by rw [hl2]; exact hz) fun h' tk hd' k => ?_
  · simp [hl2]
  · obtain ⟨b, k', e1, e2, e3, e4⟩ := hpr j k v e
    have hg : ps.getD j 0 = b := by
      rw [List.getD_eq_getElem?_getD, e1]
      rfl
    show (ps.map Value.ref).toArray[j]? = some (.ref (ps.getD j 0)) ∧ PairAt s.heap (ps.getD j 0) k v
    rw [hg]
    exact ⟨by simp [e1], .inl e3⟩
  · obtain ⟨b, k', e1, e2, e3, e4⟩ := hpr i key v e
    exact ⟨k', e2, e4⟩
  · have hm : (s.heap.objs.size == sysModules) = false := beq_eq_false_iff_ne.mpr (Nat.ne_of_gt I.big)
    have hlen : (mergeK [] kvs).length ≤ sizeLine := by
      refine Nat.le_trans (length_mergeK kvs []) ?_
      rw [List.length_nil, Nat.zero_add, rel.length, hl]
      exact hz
    exact ⟨.ref s.heap.objs.size, upd H s.heap.objs.size (.dK (mergeK [] kvs)), I.laid (t' := tk) (fun b o e => k b o (by intro h; cases h) e) (Nat.le_refl _) (show ObjOk X.prog X.w _ _ _ (.dK (mergeK [] kvs)) from ⟨hlen, hm, merged [] prs, KV.merge rel .nil, hd'⟩), rfl, q _ (I.hok.fresh (Nat.le_refl _))⟩
theorem hits_ref {A : Around} {s : Shared} {kvs : List (Key × V)} {vb : List (Key × Value)} (rb : KV kvs vb) {ks : List (Key × V)} {va : List (Key × Value)} (ra : KV ks va) :
    (∀ p ∈ ks, valV kvs p.1 = some p.2 ∧ ∃ t, p.2 = V.ref t) → PySem.W.KeqHits A s vb va true := by
  unfold KV at ra
  induction ra with
  | nil => intro _; exact .nil
  | @cons p q ps qs h t ih =>
    intro hp
    obtain ⟨h1, h2⟩ := h
    obtain ⟨e, t', f⟩ := hp p List.mem_cons_self
    have rr : RelO (some p.2) (valueAt vb p.1) := by rw [← e]; exact rb.val p.1
    obtain ⟨y, hy, ry⟩ := rr.some_of
    obtain ⟨k, v⟩ := q
    have h1' : p.1 = k := h1
    rw [h1'] at hy
    rw [f] at ry h2
    have e1 : y = Value.ref t' := ry
    have e2 : v = Value.ref t' := h2
    subst e1
    subst e2
    show PySem.W.KeqHits A s vb ((k, Value.ref t') :: qs) (true && true)
    exact .hit hy (SeqAt.EqAt.same _) (ih fun p' hm => hp p' (List.mem_cons_of_mem _ hm))
def rEqDR : R2 := fun x y H Q => ∃ (a b : Addr) (kvs : List (Key × V)), x = .ref a ∧ y = .ref b ∧ H a = some (.dK kvs) ∧ H b = some (.dK kvs) ∧ (kvs.map (·.1)).Nodup ∧ (∀ p ∈ kvs, ∃ t, p.2 = V.ref t) ∧ Q (.bl true) H
theorem op_eq_dictR (hu : X.A.units < cLine) : OpR X (compareOp .Eq) rEqDR := by
  intro pins s σ H x y v u Q I rx ry h
  obtain ⟨a, b, kvs, rfl, rfl, ea, eb, nd, fl, q⟩ := h
  obtain rfl : v = Value.ref a := rx
  obtain rfl : u = Value.ref b := ry
  obtain ⟨_, ya, va, ra, da⟩ := (show ObjOk X.prog X.w H s.heap a (.dK kvs) from I.hok a _ ea)
  obtain ⟨_, yb, vb, rb, db⟩ := (show ObjOk X.prog X.w H s.heap b (.dK kvs) from I.hok b _ eb)
  have hl : va.length = vb.length := by rw [← ra.length, ← rb.length]
  exact PySem.W.keq_eq (knd := mixKind X.prog X.w) (r := true) ya yb da db hu (fun _ => hits_ref rb ra fun p hp => ⟨val_nodup nd p hp, fl p hp⟩) (fin_bl I q (by simp [hl]))
end
end DT
namespace DT
open PySem PySem.Spec PyProof.Rows L2
section
variable {X : Cx}
/-- d.update(e) of two dicts -/
def rUpdate : V → List V → Hp → VK → Prop := fun x xs H Q => ∃ (d o : Addr) (kvs more : List (Key × V)), x = .ref d ∧ xs = [.ref o] ∧ d ≠ o ∧ H d = some (.dK kvs) ∧ H o = some (.dK more) ∧ kvs.length + more.length ≤ sizeLine ∧ Q .non (upd H d (.dK (mergeK kvs more)))
theorem mt_update : MtR X "dict.update" rUpdate := by
  intro pins s σ H x xs v us Q I rx rv h
  obtain ⟨d, o, kvs, more, rfl, rfl, hne, hd, ho, hz, q⟩ := h
  cases rx
  obtain ⟨u, rfl, ru⟩ := rv.one
  cases ru
  obtain ⟨_, y1, va, ra, da⟩ := dk_of I.hok hd
  obtain ⟨_, y2, vb, rb, db⟩ := dk_of I.hok ho
  have hz2 : va.length + vb.length ≤ sizeLine := by rw [← ra.length, ← rb.length]; exact hz
  refine call_meetsIn PySem.F.slot_dict_update da.typeIs PySem.F.entry_dict_update (PySem.F.args_dict_update_2 _ _) (meets_dict_update (mixKind X.prog X.w) d o hne y2) ⟨va, vb, da, db, hz2, fun h' hd' ho' hs => ?_⟩
  have hlen : (mergeK kvs more).length ≤ sizeLine := Nat.le_trans (length_mergeK more kvs) (by omega)
  have he : ∃ q, h'.get? d = some q := by
    obtain ⟨ob, _, _, hob, _⟩ := hd'
    exact ⟨ob, hob⟩
  exact ⟨V.non, _, d_write (t' := s.toks) I (by rw [hd]; exact trivial) hs he (dk_new hlen y1 (rb.merge ra) hd'), rfl, q⟩
end
end DT

namespace QC
open PySem PySem.Spec PyProof.Rows L2
def rLenQ (K : PySem.W.Frag) : List V → Hp → VK → Prop := fun xs H Q => ∃ p ys, xs = [.ref p] ∧ (SqL K H p ys ∨ SqT K H p ys) ∧ Q (.int ys.length) H
theorem call_lenQ {X : Cx} : CallR X (.builtin "len") (rLenQ X.K) := call_len_seq
end QC

namespace ND
open PySem PySem.Spec PyProof.Rows L2
mutual
/-- what v tells is the key k -/
def nk (H : Hp) : NestedKey → V → Prop
  | .none, v => v = .non
  | .num i, v => v = .int i
  | .text x, v => v = .str x
  | .tup ks, v => ∃ b xs, v = .ref b ∧ H b = some (.tup xs) ∧ nks H ks xs
def nks (H : Hp) : List NestedKey → List V → Prop
  | [], xs => xs = []
  | k :: ks, xs => ∃ v vs, xs = v :: vs ∧ nk H k v ∧ nks H ks vs
end
section
variable {P : Program} {w : World} {H H' : Hp} {h : Heap}
mutual
theorem nk_keep (ht : ∀ b ys, H b = some (.tup ys) → H' b = some (.tup ys)) : ∀ (k : NestedKey) (v : V), nk H k v → nk H' k v
  | .none, v, q => by unfold nk at q ⊢; exact q
  | .num i, v, q => by unfold nk at q ⊢; exact q
  | .text x, v, q => by unfold nk at q ⊢; exact q
  | .tup ks, v, q => by
    unfold nk at q ⊢
    obtain ⟨b, xs, e1, e2, q⟩ := q
    exact ⟨b, xs, e1, ht _ _ e2, nks_keep ht ks xs q⟩
theorem nks_keep (ht : ∀ b ys, H b = some (.tup ys) → H' b = some (.tup ys)) : ∀ (ks : List NestedKey) (xs : List V), nks H ks xs → nks H' ks xs
  | [], xs, q => by unfold nks at q ⊢; exact q
  | k :: ks, xs, q => by
    unfold nks at q ⊢
    obtain ⟨v, vs, e, q1, q2⟩ := q
    exact ⟨v, vs, e, nk_keep ht k v q1, nks_keep ht ks vs q2⟩
end
mutual
theorem nk_is (ok : HOk P w H h) : ∀ (k : NestedKey) (v : V) (u : Value), nk H k v → RelV v u → NestedIs h k u
  | .none, v, u, q, r => by
    unfold nk at q
    subst q
    obtain rfl : u = Value.none := r
    exact .none
  | .num i, v, u, q, r => by
    unfold nk at q
    subst q
    obtain ⟨t, rfl⟩ : ∃ t, u = Value.int i t := r
    exact .int i t
  | .text x, v, u, q, r => by
    unfold nk at q
    subst q
    obtain ⟨t, rfl⟩ : ∃ t, u = Value.str x t := r
    exact .text x t
  | .tup ks, v, u, q, r => by
    unfold nk at q
    obtain ⟨b, xs, rfl, e, q⟩ := q
    obtain rfl : u = Value.ref b := r
    obtain ⟨_, its, r, o, h1, h2, n, h3⟩ := (show ObjOk P w H h b (.tup xs) from ok b _ e)
    exact .tup h1 h2 h3 (by simpa using nks_is ok ks xs its q r)
theorem nks_is (ok : HOk P w H h) : ∀ (ks : List NestedKey) (xs : List V) (us : List Value), nks H ks xs → Vals xs us → NestedAll h ks us
  | [], xs, us, q, r => by
    unfold nks at q
    subst q
    cases r
    exact .nil
  | k :: ks, xs, us, q, r => by
    unfold nks at q
    obtain ⟨v, vs, rfl, q1, q2⟩ := q
    cases r with
    | cons r1 r2 => exact .cons (nk_is ok k v _ q1 r1) (nks_is ok ks vs _ q2 r2)
end

/-- keys, the places of their tuples, values -/
abbrev TK := NestedKey × Addr × V
def kv (ts : List TK) : List (NestedKey × V) := ts.map fun t => (t.1, t.2.2)
def R3 (p : TK) (q : NestedKey × Addr × Value) : Prop := p.1 = q.1 ∧ p.2.1 = q.2.1 ∧ RelV p.2.2 q.2.2
def putT (ts : List TK) (k : NestedKey) (b : Addr) (v : V) : List TK := if (valV (kv ts) k).isSome = true then ts.map (fun t => if t.1 = k then (t.1, t.2.1, v) else t) else ts ++ [(k, b, v)]
theorem kv_len (ts : List TK) : (kv ts).length = ts.length := List.length_map _
theorem kv_put (ts : List TK) (k : NestedKey) (b : Addr) (v : V) : kv (putT ts k b v) = putK (kv ts) k v := by
  unfold putT putK
  rw [valV_any]
  by_cases e : (valV (kv ts) k).isSome = true
  · rw [if_pos e, if_pos e]
    unfold kv
    rw [List.map_map, List.map_map]
    refine List.map_congr_left fun t _ => ?_
    show ((if t.1 = k then (t.1, t.2.1, v) else t : TK).1, (if t.1 = k then (t.1, t.2.1, v) else t : TK).2.2) = if t.1 = k then (t.1, v) else (t.1, t.2.2)
    by_cases q : t.1 = k
    · rw [if_pos q, if_pos q]
    · rw [if_neg q, if_neg q]
  · rw [if_neg e, if_neg e]
    unfold kv
    rw [List.map_append]
    rfl
theorem tv {ts : List TK} {xs : List (NestedKey × Addr × Value)} (r : Paired R3 ts xs) (k : NestedKey) : RelO (valV (kv ts) k) ((atKey xs k).map (·.2)) := by
  induction r with
  | nil => exact True.intro
  | @cons p q ps qs h t ih =>
    obtain ⟨h1, _, h2⟩ := h
    by_cases e : p.1 = k
    · have a1 : atKey (q :: qs) k = some q.2 := by simp [atKey, List.find?_cons, h1.symm.trans e]
      rw [show kv (p :: ps) = (p.1, p.2.2) :: kv ps from rfl, valV_pos e, a1]
      exact h2
    · have a1 : atKey (q :: qs) k = atKey qs k := by
        have n : ¬ q.1 = k := fun z => e (h1.trans z)
        simp [atKey, List.find?_cons, n]
      rw [show kv (p :: ps) = (p.1, p.2.2) :: kv ps from rfl, valV_neg e, a1]
      exact ih
theorem tput {ts : List TK} {xs : List (NestedKey × Addr × Value)} (r : Paired R3 ts xs) (k : NestedKey) (b : Addr) {v : V} {u : Value} (rv : RelV v u) : Paired R3 (putT ts k b v) (storedH xs k b u) := by
  have e : (valV (kv ts) k).isSome = (atKey xs k).isSome := by rw [(tv r k).isSome_eq, Option.isSome_map]
  unfold putT storedH
  rw [e]
  by_cases q : (atKey xs k).isSome = true
  · rw [if_pos q, if_pos q]
    clear e q
    induction r with
    | nil => exact .nil
    | @cons p q ps qs h t ih =>
      rw [List.map_cons, List.map_cons]
      refine .cons ?_ ih
      obtain ⟨h1, h2, h3⟩ := h
      unfold putAt
      by_cases e : p.1 = k
      · rw [if_pos e, if_pos (h1.symm.trans e)]
        exact ⟨h1, h2, rv⟩
      · rw [if_neg e, if_neg (fun z => e (h1.trans z))]
        exact ⟨h1, h2, h3⟩
  · rw [if_neg q, if_neg q]
    exact Paired.snoc r ⟨rfl, rfl, rv⟩
/-- the dict at a, as an object of its own -/
def NDo (P : Program) (w : World) (a : Addr) (ts : List TK) : HO := .ext fun h => ts.length ≤ sizeLine ∧ (a == sysModules) = false ∧ ∃ xs, Paired R3 ts xs ∧ ∃ o es ep, h.get? a = some o ∧ o.ExactDict ∧ o.data = .dict es ep ∧ es.toList = xs.map (entryOfKey (nestedKind P w)) ∧ (xs.map (·.1)).Nodup
/-- a dict with nested keys (the empty one is any dict) -/
def ND (P : Program) (w : World) (H : Hp) (a : Addr) (kvs : List (NestedKey × V)) : Prop :=
  (∃ ts, kv ts = kvs ∧ H a = some (NDo P w a ts) ∧ ∀ t ∈ ts, nk H t.1 (.ref t.2.1) ∧ t.1.depth ≤ 8) ∨ (kvs = [] ∧ H a = some (.dK []))
theorem ND.keep {a : Addr} {kvs : List (NestedKey × V)} (n : ND P w H a kvs) (ea : ∀ o, H a = some o → H' a = some o) (ht : ∀ b ys, H b = some (.tup ys) → H' b = some (.tup ys)) : ND P w H' a kvs := by
  rcases n with ⟨ts, e1, e2, e3⟩ | ⟨e1, e2⟩
  · exact .inl ⟨ts, e1, ea _ e2, fun t m => ⟨nk_keep ht _ _ (e3 t m).1, (e3 t m).2⟩⟩
  · exact .inr ⟨e1, ea _ e2⟩
theorem ND.mut {a : Addr} {kvs : List (NestedKey × V)} (n : ND P w H a kvs) : Mut (H a) := by
  rcases n with ⟨ts, _, e, _⟩ | ⟨_, e⟩
  · rw [e]; exact True.intro
  · rw [e]; exact True.intro
theorem ND.not_tup {a b : Addr} {kvs : List (NestedKey × V)} {ys : List V} (n : ND P w H a kvs) (e : H b = some (.tup ys)) : b ≠ a := fun z => by
  subst z
  rcases n with ⟨ts, _, e2, _⟩ | ⟨_, e2⟩
  · rw [e] at e2
    have z' : HO.tup ys = HO.ext _ := Option.some.inj e2
    exact nomatch z'
  · rw [e] at e2
    exact nomatch e2
theorem nd_of {a : Addr} {kvs : List (NestedKey × V)} (ok : HOk P w H h) (n : ND P w H a kvs) : kvs.length ≤ sizeLine ∧ (a == sysModules) = false ∧
    ∃ ts xs, kv ts = kvs ∧ Paired R3 ts xs ∧ (∀ t ∈ ts, nk H t.1 (.ref t.2.1) ∧ t.1.depth ≤ 8) ∧ h.DictOfH (nestedKind P w) a xs := by
  rcases n with ⟨ts, e1, e2, e3⟩ | ⟨rfl, e2⟩
  · obtain ⟨⟨z, y, xs, r, o, es, ep, h1, h2, h3, h4, h5⟩, _⟩ := (show ObjOk P w H h a (NDo P w a ts) from ok a _ e2)
    refine ⟨by rw [← e1, kv_len]; exact z, y, ts, xs, e1, r, e3, o, es, ep, h1, h2, h3, h4, fun x hx => ?_, h5⟩
    have all : ∀ {l : List TK} {m : List (NestedKey × Addr × Value)}, Paired R3 l m → (∀ t ∈ l, nk H t.1 (.ref t.2.1) ∧ t.1.depth ≤ 8) → ∀ x ∈ m, (nestedKind P w).is h x.1 x.2.1 := by
      intro l m q
      induction q with
      | nil => intro _ x hx; exact nomatch hx
      | @cons p q ps qs hq t ih =>
        intro hl x hx
        rcases List.mem_cons.mp hx with e | hx
        · subst e
          obtain ⟨k1, k2⟩ := hl p List.mem_cons_self
          rw [hq.1, hq.2.1] at k1
          rw [hq.1] at k2
          exact ⟨nk_is ok _ _ _ k1 rfl, k2⟩
        · exact ih (fun t ht => hl t (List.mem_cons_of_mem _ ht)) x hx
    exact all r e3 x hx
  · obtain ⟨z, y, vs, rel, o, es, ep, h1, h2, h3, h4, h5, h6⟩ := dk_of ok e2
    cases rel
    refine ⟨Nat.zero_le _, y, [], [], rfl, .nil, (fun t ht => nomatch ht), o, es, ep, h1, h2, h3, ?_, (fun x hx => nomatch hx), .nil⟩
    cases e : es.toList with
    | nil => rfl
    | cons x r =>
      rw [e] at h5
      cases h5
end
section
variable {X : Cx} {pins : List (Addr × Obj)} {σ : L2.St} {H : Hp} {s : Shared} {a b : Addr} {kvs : List (NestedKey × V)} {k : NestedKey} {v : V} {r : Value} {A : Around} {E : Value → Shared → Prop}
theorem key_is {P : Program} {w : World} {h : Heap} (ok : HOk P w H h) (hk : nk H k (.ref b)) (hd : k.depth ≤ 8) : (nestedKind P w).is h k b := ⟨nk_is ok _ _ _ hk rfl, hd⟩
theorem n_getItem {Q : Value → Shared → Prop} (hu : (nestedKind X.prog X.w).room A.in1) (I : Inv X pins σ H s) (n : ND X.prog X.w H a kvs) (hk : nk H k (.ref b)) (hd : k.depth ≤ 8) (hv : valV kvs k = some v) (h : ∀ w' s', Inv X pins σ H s' → RelV v w' → Q w' s') :
    wpAny (model X.prog X.w) A (getItem (.ref a) (.ref b)) Q E s := by
  obtain ⟨z, hm, ts, xs, e, rel, _, dd⟩ := nd_of I.hok n
  obtain ⟨w', hw, rw'⟩ := RelO.some_of (v := v) (o := (atKey xs k).map (·.2)) (by rw [← hv, ← e]; exact tv rel k)
  obtain ⟨p, hp, hp2⟩ := Option.map_eq_some_iff.mp hw
  refine wpAny_getItem_heap hu (key_is I.hok hk hd) dd hp ?_
  rw [hp2]
  exact h w' _ (I.tok _) rw'
theorem n_in {Q : Value → Shared → Prop} (hu : (nestedKind X.prog X.w).room A.in1) (I : Inv X pins σ H s) (n : ND X.prog X.w H a kvs) (hk : nk H k (.ref b)) (hd : k.depth ≤ 8) (h : ∀ s', Inv X pins σ H s' → Q (.bool (valV kvs k).isSome) s') :
    wpAny (model X.prog X.w) A (compareOp .In (.ref b) (.ref a)) Q E s := by
  obtain ⟨z, hm, ts, xs, e, rel, _, dd⟩ := nd_of I.hok n
  refine wpAny_in_heap hu (key_is I.hok hk hd) hm dd ?_
  have q := (tv rel k).isSome_eq
  rw [Option.isSome_map, e] at q
  rw [← q]
  exact h _ (I.tok _)
theorem n_notIn {Q : Value → Shared → Prop} (hu : (nestedKind X.prog X.w).room A.in1) (I : Inv X pins σ H s) (n : ND X.prog X.w H a kvs) (hk : nk H k (.ref b)) (hd : k.depth ≤ 8) (h : ∀ s', Inv X pins σ H s' → Q (.bool (!(valV kvs k).isSome)) s') :
    wpAny (model X.prog X.w) A (compareOp .NotIn (.ref b) (.ref a)) Q E s := by
  obtain ⟨z, hm, ts, xs, e, rel, _, dd⟩ := nd_of I.hok n
  refine wpAny_notIn_heap hu (key_is I.hok hk hd) hm dd ?_
  have q := (tv rel k).isSome_eq
  rw [Option.isSome_map, e] at q
  rw [← q]
  exact h _ (I.tok _)
/-- the heap behind a[k] = v -/
theorem n_setItem {Q : Unit → Shared → Prop} (hu : (nestedKind X.prog X.w).room A.in1) (I : Inv X pins σ H s) (n : ND X.prog X.w H a kvs) (hk : nk H k (.ref b)) (hd : k.depth ≤ 8) (hz : kvs.length < sizeLine) (rv : RelV v r)
    (h : ∀ o s', ND X.prog X.w (upd H a o) a (putK kvs k v) → Inv X pins σ (upd H a o) s' → Q () s') :
    wpAny (model X.prog X.w) A (setItem (.ref a) (.ref b) r) Q E s := by
  obtain ⟨z, hm, ts, xs, e, rel, al, dd⟩ := nd_of I.hok n
  have hl : xs.length ≤ sizeLine := by rw [← Paired.length rel, ← kv_len, e]; exact z
  refine wpAny_setItem_heap (hsz := hl) hu (key_is I.hok hk hd) dd fun h' dd' hs => h (NDo X.prog X.w a (putT ts k b v)) _ ?_ ?_
  · have ht : ∀ c ys, H c = some (.tup ys) → upd H a (NDo X.prog X.w a (putT ts k b v)) c = some (.tup ys) := fun c ys ec => by
      rw [upd_ne (n.not_tup ec)]
      exact ec
    refine .inl ⟨putT ts k b v, by rw [kv_put, e], upd_same, fun t m => ?_⟩
    unfold putT at m
    by_cases q : (valV (kv ts) k).isSome = true
    · rw [if_pos q] at m
      obtain ⟨t0, m0, rfl⟩ := List.mem_map.mp m
      obtain ⟨g1, g2⟩ := al t0 m0
      by_cases q2 : t0.1 = k
      · rw [if_pos q2]
        exact ⟨nk_keep ht _ _ g1, g2⟩
      · rw [if_neg q2]
        exact ⟨nk_keep ht _ _ g1, g2⟩
    · rw [if_neg q] at m
      rcases List.mem_append.mp m with m | m
      · obtain ⟨g1, g2⟩ := al t m
        exact ⟨nk_keep ht _ _ g1, g2⟩
      · rw [List.mem_singleton.mp m]
        exact ⟨nk_keep ht _ _ hk, hd⟩
  · obtain ⟨q, es, ep, hq, h2, h3, h4, _, h5⟩ := dd'
    refine d_write I n.mut hs ⟨q, hq⟩ ⟨⟨?_, hm, _, tput rel k b rv, q, es, ep, hq, h2, h3, h4, h5⟩, ⟨q, hq⟩, fun h1 h2 x st => ?_⟩
    · have := length_putK (kv ts) k v
      rw [← kv_put ts k b v, kv_len, e] at this
      omega
    · obtain ⟨z1, z2, xs2, r2, o, es2, ep2, g1, g2⟩ := x
      exact ⟨z1, z2, xs2, r2, o, es2, ep2, st _ g1, g2⟩
end

/-! the readings -/
def tNGet (P : Program) (w : World) (td ty : TE) : TE := fun σ H Q => td σ H fun x H1 => ty σ H1 fun y H2 => ∃ a b kvs k v, x = .ref a ∧ y = .ref b ∧ ND P w H2 a kvs ∧ nk H2 k (.ref b) ∧ k.depth ≤ 8 ∧ valV kvs k = some v ∧ Q v H2
def tNIn (P : Program) (w : World) (neg : Bool) (ty td : TE) : TE := fun σ H Q => ty σ H fun y H1 => td σ H1 fun x H2 => ∃ a b kvs k, x = .ref a ∧ y = .ref b ∧ ND P w H2 a kvs ∧ nk H2 k (.ref b) ∧ k.depth ≤ 8 ∧ Q (.bl (if neg then !(valV kvs k).isSome else (valV kvs k).isSome)) H2
def sNPut (P : Program) (w : World) (td ty tv : TE) : TS := fun D σ H => tv σ H fun v H1 => td σ H1 fun x H2 => ty σ H2 fun y H3 => ∃ a b kvs k, x = .ref a ∧ y = .ref b ∧ ND P w H3 a kvs ∧ nk H3 k (.ref b) ∧ k.depth ≤ 8 ∧ kvs.length < sizeLine ∧ ∀ o, ND P w (upd H3 a o) a (putK kvs k v) → D.nx σ (upd H3 a o)
def tNGet2 (P : Program) (w : World) (td ty tx : TE) : TE := fun σ H Q => td σ H fun x H1 => ∃ a kvs, x = .ref a ∧ ND P w H1 a kvs ∧ ty σ H1 fun y H2 => tx σ H2 fun z H3 => ∃ b kvs k, y = .ref b ∧ ND P w H3 a kvs ∧ nk H3 k (.ref b) ∧ k.depth ≤ 8 ∧ Q ((valV kvs k).getD z) H3
theorem hu9_of {A : Around} {k : Nat} (hr : Room k A) : A.units + 9 < cLine := Nat.lt_of_le_of_lt (Nat.add_le_add_left (by decide : 9 ≤ 64) _) hr.units
theorem room9 {P : Program} {w : World} {A : Around} (hu : A.units + 9 < cLine) : (nestedKind P w).room A.in1 := by
  show A.units + 1 + 8 < cLine
  omega
theorem nd_type {X : Cx} {pins : List (Addr × Obj)} {σ : L2.St} {H : Hp} {s : Shared} {a : Addr} {kvs : List (NestedKey × V)} (I : Inv X pins σ H s) (n : ND X.prog X.w H a kvs) : s.TypeIs (.ref a) "dict" ∧ (∀ b, Value.ref a = .ref b → ∃ ob, s.heap.get? b = some ob ∧ ob.dict = none) := by
  obtain ⟨_, hd, ts, xs, _, _, _, dd⟩ := nd_of I.hok n
  refine ⟨dd.typeIs, fun b q => ?_⟩
  cases q
  obtain ⟨ob, _, _, h1, h2, _⟩ := dd
  exact ⟨ob, h1, h2.2.1⟩
section
variable {X : Cx} {o i e f value : Expr} {pos pos' apos cpos : Pos} {td ty tv tx : TE}
theorem pe_ndget (hu : X.A.units + 9 < cLine) (ho : PE X o td) (hi : PE X i ty) (hs : NoSl i) : PE X (.Subscript o i pos) (tNGet X.prog X.w td ty) := by
  constructor
  intro pins s σ H Q I h
  refine subD_of PySem.F.slot_dict_getitem.lookup hs (thn (ho.run pins s σ H _ I h) fun u s1 ⟨x, H1, I1, rx, q1⟩ => thn (hi.run pins s1 σ H1 _ I1 q1) fun iv s2 ⟨y, H2, I2, ry, a, b, kvs, k, v, ex, ey, n, hk, hd, hv, q2⟩ => ?_)
  subst ex ey
  obtain rfl : u = Value.ref a := rx
  obtain rfl : iv = Value.ref b := ry
  exact ⟨(nd_type I2 n).1, n_getItem (room9 hu) I2 n hk hd hv fun w' s3 I3 rw' => ⟨v, H2, I3, rw', q2⟩⟩
theorem pc_ndin (hu : X.A.units + 9 < cLine) (hi : PE X i ty) (ho : PE X o td) : PC X .In i o (tNIn X.prog X.w false ty td) := by
  constructor
  intro pins s σ H Q I h
  refine thn (hi.run pins s σ H _ I h) fun iv s1 ⟨y, H1, I1, ry, q1⟩ => thn (ho.run pins s1 σ H1 _ I1 q1) fun u s2 ⟨x, H2, I2, rx, a, b, kvs, k, ex, ey, n, hk, hd, q2⟩ => ?_
  subst ex ey
  obtain rfl : u = Value.ref a := rx
  obtain rfl : iv = Value.ref b := ry
  exact n_in (room9 hu) I2 n hk hd fun s3 I3 => ⟨.bl (valV kvs k).isSome, H2, I3, rfl, q2⟩
theorem pc_ndnotin (hu : X.A.units + 9 < cLine) (hi : PE X i ty) (ho : PE X o td) : PC X .NotIn i o (tNIn X.prog X.w true ty td) := by
  constructor
  intro pins s σ H Q I h
  refine thn (hi.run pins s σ H _ I h) fun iv s1 ⟨y, H1, I1, ry, q1⟩ => thn (ho.run pins s1 σ H1 _ I1 q1) fun u s2 ⟨x, H2, I2, rx, a, b, kvs, k, ex, ey, n, hk, hd, q2⟩ => ?_
  subst ex ey
  obtain rfl : u = Value.ref a := rx
  obtain rfl : iv = Value.ref b := ry
  exact n_notIn (room9 hu) I2 n hk hd fun s3 I3 => ⟨.bl (!(valV kvs k).isSome), H2, I3, rfl, q2⟩
theorem ps_ndput (hu : X.A.units + 9 < cLine) (ho : PE X o td) (hi : PE X i ty) (hv : PE X value tv) (hs : swapsWith value (some (.Subscript o i pos')) pos.line X.env = pure false) : PS X (.Assign [.Subscript o i pos'] value pos) (sNPut X.prog X.w td ty tv) := by
  constructor
  intro pins s σ H D I h
  refine wpAny_Assign_Subscript (thn (hv.run pins s σ H _ I h) fun r s1 ⟨v, H1, I1, rv, q1⟩ => thn (ho.run pins s1 σ H1 _ I1 q1) fun u s2 ⟨x, H2, I2, rx, q2⟩ => thn (hi.run pins s2 σ H2 _ I2 q2) fun iv s3 ⟨y, H3, I3, ry, a, b, kvs, k, ex, ey, n, hk, hd, hz, q3⟩ => ?_) hs
  subst ex ey
  obtain rfl : u = Value.ref a := rx
  obtain rfl : iv = Value.ref b := ry
  exact n_setItem (room9 hu) I3 n hk hd hz rv fun ob s4 n4 I4 => ⟨σ, _, I4, q3 ob n4⟩
theorem pe_ndget2 (hu : X.A.units + 9 < cLine) (ho : PE X o td) (he : PE X e ty) (hf : PE X f tx) (m : M2 X o "get" apos e f cpos) : PE X (.Call (.Attribute o "get" apos) [e, f] [] cpos) (tNGet2 X.prog X.w td ty tx) := by
  constructor
  intro pins s σ H Q I h
  refine wpAny_Call_method m.base m.few m.line PySem.F.plainAttrs_dict PySem.F.slot_dict_get PySem.F.type_dict_get (thn (ho.run pins s σ H _ I h) fun u s1 ⟨x, H1, I1, rx, a, kvs1, ex, n1, q1⟩ => ?_)
  subst ex
  obtain rfl : u = Value.ref a := rx
  obtain ⟨t1, t2⟩ := nd_type I1 n1
  refine ⟨t1, t2, ?_⟩
  rw [m.trees]
  refine Calls.callWith_builtin rfl (Calls.evalArgs_plain (Calls.spliced_cons (thn (he.run pins s1 σ H1 _ I1 q1) fun iv s2 ⟨y, H2, I2, ry, q2⟩ =>
    Calls.spliced_cons (thn (hf.run pins s2 σ H2 _ I2 q2) fun fv s3 ⟨z, H3, I3, rz, b, kvs, k, ey, n, hk, hd, q3⟩ => Calls.spliced_nil ?_))))
  subst ey
  obtain rfl : iv = Value.ref b := ry
  obtain ⟨zz, hm, ts, xs, e, rel, _, dd⟩ := nd_of I3.hok n
  refine call_meetsIn PySem.F.slot_dict_get dd.typeIs PySem.F.entry_dict_get (PySem.F.args_dict_get_3 _ _ _) (meetsH_dict_get_default (nestedKind X.prog X.w) a b hm fv) ⟨room9 hu, k, xs, key_is I3.hok hk hd, dd, ?_⟩
  refine ⟨_, H3, I3.tok _, ?_, q3⟩
  rw [← e]
  exact (tv rel k).getD rz
end
end ND

namespace SLT
open PySem PySem.Spec PyProof.Rows L2
/-! set(xs) of a list or a tuple of ints, as a set whose order may be asked for -/
section
variable {P : Program} {w : World} {A : Around} {E : Value → Shared → Prop} {s : Shared}
/-- the new set -/
abbrev so (w : World) : Obj := { cls := .type "set", dict := none, data := .set #[] 0 (.fresh 0 0 (!w.params.followText "set-order")) }
abbrev s1 (w : World) (s : Shared) : Shared := { s with heap := s.heap.push (so w) }
/-- what is known behind the set's own making -/
def Filled (w : World) (s : Shared) (ns : List Int) (t : Shared) : Prop := ∃ h tk n, t = { s with heap := h, toks := tk } ∧ SetR w h s.heap.objs.size (fun j => decide (j ∈ ns)) n ∧ n ≤ ns.length ∧ ∀ b o, s.heap.get? b = some o → h.get? b = some o
theorem init_l {l : Addr} {its : Array Value} {ns : List Int} (hh : A.handled = none) (hl : s.heap.IsList l its) (hi : IntsAre its.toList ns) (hb : ns.length + 1 < scanBound) :
    wpAny (model P w) A.in1.in1 (Builtin.«set.__init__» ⟨[.ref s.heap.objs.size, .ref l], []⟩)
      (fun fin t => match fin with
        | .done f => wants (fun r t => r = .none ∧ Filled w s ns t) E (.ok f) t
        | .again c => c.quiet = true ∧ codeAny (model P w) A.in1 c (wants (fun r t => r = .none ∧ Filled w s ns t) E) t) (fun e t => wants (fun r t => r = .none ∧ Filled w s ns t) E (.error e) t) (s1 w s) := by
  have esz : its.size = ns.length := (Array.length_toList (xs := its)).symm.trans (IntsAre.length hi)
  obtain ⟨ol, e0, e1, nl, e2⟩ := id hl
  have ll : l < s.heap.objs.size := Heap.lt_size e0
  have L1 : (s1 w s).heap.IsList l its := ⟨ol, Heap.get?_push_of_some _ e0, e1, nl, e2⟩
  obtain ⟨oc, od, oa, os⟩ := ol
  simp only at e1 e2
  subst e1 e2
  have e3 : (s1 w s).heap.get? l = some { cls := .type "list", dict := od, data := .seq its nl, slots := os } := Heap.get?_push_of_some _ e0
  have n1 := F.sub_list_set
  have n2 := F.sub_list_frozenset
  have n3 : (Value.type "list" == Value.type "dict") = false := by decide
  unfold Builtin.«set.__init__» noKeywords
  unfold Builtin.Frozenset.updateFrom
  generalize ePI : pyIter = PI
  wp_walk
  subst ePI
  apply wpAny_pyIter_list L1
  apply wpAny_bind
  apply wpAny_runValue
  have sz1 : (s1 w s).heap.objs.size = s.heap.objs.size + 1 := Heap.size_push ..
  have eS : ((s1 w s).heap.push { cls := .type "list_iterator", data := .fields #[.ref l, .int 0 0] }).get? s.heap.objs.size = some (so w) := Heap.get?_push_of_some _ (Heap.get?_push_size _ rfl)
  have nl1 : l ≠ (s1 w s).heap.objs.size := Nat.ne_of_lt (Nat.lt_of_lt_of_eq (Nat.lt_succ_of_lt ll) sz1.symm)
  have nS : s.heap.objs.size ∉ [(s1 w s).heap.objs.size, l] := fun z => by
    rcases List.mem_cons.mp z with z | z
    · exact absurd z (Nat.ne_of_lt (Nat.lt_of_lt_of_eq (Nat.lt_succ_self _) sz1.symm))
    · exact absurd (List.mem_singleton.mp z) (Nat.ne_of_gt ll)
  have at_ : ∀ (i : Nat) (v : Value), its[i]? = some v → ∃ k t, ns[i]? = some k ∧ v = .int k t := fun i v hv => by
    have il : i < ns.length := esz ▸ (Array.getElem?_eq_some_iff.mp hv).1
    obtain ⟨t, et⟩ := IntsAre.int_at hi i v (by rw [Array.getElem?_toList]; exact hv)
    rw [List.getD_eq_getElem?_getD, List.getElem?_eq_getElem il] at et
    exact ⟨ns[i], t, List.getElem?_eq_getElem il, et⟩
  apply set_update_ints (Walks.list (show A.in1.in1.in1.handled = none from hh) _ l nl1 its).toS s.heap.objs.size nS ns esz hb at_ its.size 0 _ rfl (Nat.zero_le _)
  · exact ⟨⟨_, Heap.get?_push_size _ rfl, rfl, rfl⟩, L1.push _⟩
  · exact ⟨0, Nat.le_refl _, setR_new_at eS⟩
  · intro t c mv hc R
    rw [Moved.eq_with mv]
    apply wpAny_pure
    show wpAny _ _ (ret Value.none) _ _ _
    exact wpAny_pure ⟨rfl, t.heap, t.toks, c, rfl, R, esz ▸ hc, fun b o e => mv.heap b o (fun z => by
      have y := Heap.lt_size e
      rcases List.mem_cons.mp z with z | z
      · exact absurd z (Nat.ne_of_lt y)
      · exact absurd (List.mem_singleton.mp z) (Nat.ne_of_lt (Nat.lt_of_lt_of_eq (Nat.lt_succ_of_lt y) sz1.symm))) (Heap.get?_push_of_some _ (Heap.get?_push_of_some _ e))⟩
theorem call_l {l : Addr} {its : Array Value} {ns : List Int} {Q : Value → Shared → Prop} (hh : A.handled = none) (hl : s.heap.IsList l its) (hi : IntsAre its.toList ns) (hb : ns.length + 1 < scanBound)
    (h : ∀ t, Filled w s ns t → Q (.ref s.heap.objs.size) t) : wpAny (model P w) A (call (.type "set") [.ref l]) Q E s := by
  obtain ⟨c, tl, f1⟩ := F.called_set.mro
  have f2 := F.called_set.made
  have f3 := F.called_set.sub
  have f4 := F.called_set.notType
  have f5 := F.called_set.canCreate
  have f6 := F.typeCall_set_1 (.ref l)
  apply wpAny_call
  apply codeAny_of_tree
  change wpAny _ _ (callAny (.type "set") _) _ _ _
  apply wpAny_pure
  refine ⟨Code.quiet_builtin _ (by decide +kernel), ?_⟩
  apply codeAny_builtin F.entry_type_call
  rw [Around.under_plain (weight_type_call_type "set" [.ref l] []) rfl]
  repeat (any_goals (first | assumption | wp_step))
  apply codeAny_mono (code_set_led1 (.ref l) (E := E) (Q₁ := fun obj t => obj = .ref s.heap.objs.size ∧ t = s1 w s) ⟨rfl, rfl⟩)
  intro r t hr
  rcases r with e | fl
  · exact hr
  cases fl with
  | ret obj =>
    obtain ⟨rfl, rfl⟩ := hr
    have gS : (s1 w s).heap.get? s.heap.objs.size = some (so w) := Heap.get?_push_size _ rfl
    have tS : (s1 w s).TypeIs (.ref s.heap.objs.size) "set" := ⟨_, gS, rfl⟩
    have f7 := F.called_set.init.lookup
    have f8 := F.called_set.init.bind (.ref s.heap.objs.size)
    repeat (any_goals (first | assumption | wp_step))
    apply codeAny_mono (codeAny_call_builtin (R := wants (fun r t => r = .none ∧ Filled w s ns t) E) F.called_set.init.plain F.entry_set_init (check_set_init_1 tS (init_l hh hl hi hb)))
    intro r2 t2 hr2
    rcases r2 with e2 | fl2
    · exact hr2
    cases fl2 with
    | ret r =>
      obtain ⟨rfl, F⟩ := hr2
      repeat (any_goals (first | assumption | wp_step))
      exact h _ F
    | _ => exact hr2.elim
  | _ => exact hr.elim
end
section
variable {X : Cx}
/-- set(xs), xs a list or a tuple of ints -/
def rSetLT (K : PySem.W.Frag) (w : World) : List V → Hp → VK → Prop := fun vs H Q => ∃ (p : Addr) (ns : List Int), vs = [.ref p] ∧ (SqL K H p (ns.map V.int) ∨ SqT K H p (ns.map V.int)) ∧ ns.length ≤ 1000 ∧ ∀ (q : Addr) (n : Nat), H q = none → n ≤ ns.length → Q (.ref q) (upd H q (SetO w q (fun j => decide (j ∈ ns)) n))
theorem cr_setLT (hc : X.calm = true) : CallR X (.type "set") (rSetLT X.K X.w) := by
  intro pins s σ H vs us Q I r h
  obtain ⟨p, ns, rfl, hq, hl, q⟩ := h
  rw [Vals.ref1 r]
  have hd := I.ok.hd hc
  have hs : ns.length + 1 < scanBound := by unfold scanBound; omega
  rcases hq with hq | hq
  · obtain ⟨its, rv, pt, hz⟩ := I.list hq
    apply call_l hd pt.isList (ns := ns) (ints_of_vals rv) hs
    rintro _ ⟨h', tk, c, rfl, R, hc, k⟩
    exact ⟨.ref _, _, I.laid (t' := tk) k (Nat.le_refl _) (setO_new R), rfl, q _ _ (I.hok.fresh (Nat.le_refl _)) hc⟩
  · obtain ⟨its, rv, pt, hz⟩ := I.tuple hq
    apply call_set_tupI ns hd (show s.heap.IsTuple p its.toArray from pt) (ints_of_vals rv) hs
    intro h' tk c R hc k
    exact ⟨.ref _, _, I.laid (t' := tk) k (Nat.le_refl _) (setO_new R), rfl, q _ _ (I.hok.fresh (Nat.le_refl _)) hc⟩
end
end SLT

namespace SDT
open PySem PySem.Spec PyProof.Rows L2
section
variable {prog : Program} {w : World} {A : Around} {d : Addr} {o : Obj} {es : Array DictEntry} {ep : Nat}
theorem walks_at (hh : A.handled = none) (I : Addr) (hne : d ≠ I) (hdat : o.data = .dict es ep) :
    Walks prog w A I [I, d] [I] es.size (fun i v => ∃ en, es[i]? = some en ∧ v = en.key) (fun i h => h.IsKeyIter I d i es.size ep ∧ h.get? d = some o) where
  sub := fun b hb => by simp at hb; simp [hb]
  frame := fun _ _ _ st hk => ⟨st.1.at fun o e => hk I (by simp) o e, hk d (by simp) _ st.2⟩
  item := fun i s Q E hi st hQ => by
    obtain ⟨en, hx⟩ : ∃ p, es[i]? = some p := ⟨es[i], by simp [hi]⟩
    refine next_key_item st.1 st.2 hdat rfl hx fun h' hit' hs' => ?_
    exact hQ en.key h' s.toks ⟨en, hx, rfl⟩ ⟨hit', (hs'.2 d hne).trans st.2⟩ fun b o hb e => hs'.extBut b o (fun h => hb (by simp [h])) e
  done := fun s Q E st hQ => next_key_end hh st.1 st.2 hdat rfl (Nat.le_refl _) fun h' he' => hQ h' s.toks fun b o hb e => he' b o (fun h => hb (by simp [h])) e
  self := fun _ _ _ _ st hQ => wpAny_pyIter_keyiter st.1 hQ
theorem src_at (lo : (d == sysModules) = false) (hc : o.ExactDict) (hdat : o.data = .dict es ep) : PySem.W.KdlSrc prog w "dict" d d es.size (fun i v => ∃ en, es[i]? = some en ∧ v = en.key) (fun h => h.get? d = some o) where
  type := fun _ hm => ⟨_, hm, hc.1⟩
  there := fun _ hm => ⟨Heap.lt_size hm, Heap.lt_size hm⟩
  keep := fun _ _ hm hk => hk d (.inl rfl) _ hm
  notList := by decide
  notTuple := by decide
  hint := fun _ _ _ _ hm hq => PySem.W.kdl_hint_dict ⟨_, hm, hc.1⟩ hq
  iter := fun _ s hh hm => ⟨_, _, (fun _ _ hq => iter_keys lo hm hc hdat hq), walks_at hh _ (Nat.ne_of_lt (Heap.lt_size hm)) hdat, ⟨⟨_, Heap.get?_push_size _ rfl, rfl, rfl⟩, Heap.get?_push_of_some _ hm⟩⟩
end
def lexI (p q : Int × Int) : Prop := p.1 < q.1 ∨ (p.1 = q.1 ∧ p.2 ≤ q.2)
def ik (p : Int × Int) : List Key := [.inl p.1, .inl p.2]
theorem lex_tot (p q : Int × Int) : ¬ (SrtO.lexB p q = true) → lexI q p := by
  intro h
  have h2 : ¬ (p.1 < q.1 ∨ (p.1 = q.1 ∧ p.2 < q.2)) := fun z => h (SrtO.lexB_iff.mpr z)
  unfold lexI
  omega
section
variable {X : Cx}
/-- sorted(d), d a dict of pairs of ints -/
def rSortedDT : List V → Hp → VK → Prop := fun vs H Q => ∃ (a : Addr) (kvs : List (List Key × V)) (ks : List (Int × Int)), vs = [V.ref a] ∧ H a = some (.dT kvs) ∧ kvs.map (·.1) = ks.map ik ∧
  ∀ (zs : List (Int × Int)) (ys : List V) (p : Addr), zs.Perm ks → zs.Pairwise lexI → ys.length = zs.length → (∀ (i : Nat) (y : V) (z : Int × Int), ys[i]? = some y → zs[i]? = some z → ∃ t, y = .ref t ∧ H t = some (.tup [.int z.1, .int z.2])) → H p = none → Q (.ref p) (upd H p (.lst ys))
theorem cr_sortedDT (hcalm : X.calm = true) : CallR X (.builtin "sorted") rSortedDT := by
  intro pins s σ H vs us Q I r h
  obtain ⟨a, kvs, ks, rfl, ha, hks, q⟩ := h
  rw [Vals.ref1 r]
  obtain ⟨z, lo, xs, pr, o, es, ep, ho, hx, hdt, he, nd⟩ := I.hok a _ ha
  have hsz : es.size = xs.length := size_of_entries he
  have hl : kvs.length = xs.length := Paired.length pr
  have hlk : kvs.length = ks.length := by
    have e := congrArg List.length hks
    rwa [List.length_map, List.length_map] at e
  refine Calls.call_function_entry PyProof.Rows.kind_sorted PyProof.Rows.plain_sorted PyProof.Rows.entry_sorted (PyProof.Rows.args_sorted1 _) ?_
  unfold Builtin.«sorted»
  refine wpAny_bind (m := checkCount "sorted" 1 1 _) (wpAny_pure ?_)
  refine wpAny_bind (PySem.W.kdu_collect (A := X.A.in1) (src_at lo hx hdt) (I.ok.hd hcalm) ho (by rw [hsz, ← hl]; exact z) fun h' tk acc hk hacc => ?_)
  have hal : acc.toList.length = ks.length := by rw [Array.length_toList, hacc.1, hsz, ← hl, hlk]
  have I1 : Inv X pins σ H { s with heap := h', toks := tk } := I.kept hk
  have hat : ∀ (j : Nat) (v : Value), acc.toList[j]? = some v → ∃ (k : Int × Int) (t : Addr), ks[j]? = some k ∧ v = .ref t ∧ H t = some (.tup [.int k.1, .int k.2]) := fun j v e => by
    obtain ⟨en, e1, e2⟩ := hacc.2 j v (by rw [← Array.getElem?_toList]; exact e)
    have hj : j < ks.length := by rw [← hal]; exact (List.getElem?_eq_some_iff.mp e).1
    have ekv : kvs[j]? = some kvs[j] := List.getElem?_eq_getElem (by omega)
    obtain ⟨b, hb, f1, f2, _⟩ := paired_get pr ekv
    have eq := entry_at he j
    rw [hb] at eq
    have e3 : es[j]? = some _ := eq
    rw [e1] at e3
    have e5 : (kvs.map (·.1))[j]? = some kvs[j].1 := by rw [List.getElem?_map, ekv]; rfl
    rw [hks, List.getElem?_map, List.getElem?_eq_getElem hj] at e5
    have e6 : ik ks[j] = kvs[j].1 := Option.some.inj e5
    refine ⟨ks[j], b.2.1, List.getElem?_eq_getElem hj, ?_, ?_⟩
    · rw [e2, Option.some.inj e3]
      rfl
    · rw [← e6] at f2
      exact f2
  have e2 : ∀ v ∈ acc.toList, ∃ t, v = Value.ref t := fun v hv => by
    obtain ⟨j, hj⟩ := List.mem_iff_getElem?.mp hv
    obtain ⟨k, t, _, e, _⟩ := hat j v hj
    exact ⟨t, e⟩
  have tup2 : ∀ {t : Addr} {x y : Int}, H t = some (.tup [.int x, .int y]) → Srt.IsPair h' (.ref t) x y := fun ht => by
    obtain ⟨_, its2, r2, o, ho, hc, n, hd⟩ := I1.hok _ _ ht
    obtain ⟨u1, u2, rfl, ri, rj⟩ := vals2 r2
    obtain ⟨t1, rfl⟩ := ri
    obtain ⟨t2, rfl⟩ := rj
    exact ⟨_, o, t1, t2, n, rfl, ho, hc, hd⟩
  let kf : Value → Int × Int := fun v => match v with
    | .ref t => (match H t with
      | some (.tup [.int x, .int y]) => (x, y)
      | _ => (0, 0))
    | _ => (0, 0)
  have kf_at : ∀ {t : Addr} {x y : Int}, H t = some (.tup [.int x, .int y]) → kf (.ref t) = (x, y) := fun ht => by
    show (match H _ with
      | some (.tup [.int x, .int y]) => (x, y)
      | _ => (0, 0)) = _
    rw [ht]
  have hmap : acc.toList.map kf = ks := by
    refine List.ext_getElem? fun j => ?_
    rw [List.getElem?_map]
    cases ej : acc.toList[j]? with
    | none =>
      rw [List.getElem?_eq_none_iff] at ej
      exact (List.getElem?_eq_none (by omega)).symm
    | some v =>
      obtain ⟨k, t, e3, e4, e5⟩ := hat j v ej
      rw [e3]
      show some (kf v) = some k
      rw [e4, kf_at e5]
  refine wpAny_bind (wpAny_newList ?_ (by rw [hal, ← hlk]; exact z))
  have hoL : (h'.push (seqObj "list" acc.toList.toArray 0)).get? h'.objs.size = some (seqObj "list" acc.toList.toArray 0) := Heap.get?_push_size _ rfl
  show wpAny _ _ _ _ _ { s with heap := h'.push (seqObj "list" acc.toList.toArray 0), toks := tk }
  refine wpAny_bind (wpAny_holding (wpAny_call_entry PyProof.Rows.slot_list_sort ⟨_, hoL, rfl⟩ PyProof.Rows.entry_list_sort
    (SrtO.list_sort_ord (s := { s with heap := h'.push (seqObj "list" acc.toList.toArray 0), toks := tk }) (SrtO.swo_lex kf) hoL (by rw [hal, ← hlk]; exact z) (fun h2 => SrtO.pairs_sortableO (by omega) (fun v hv => ?_) fun o' e => ?_) fun out h1 h2 => ⟨_, rfl, ?_⟩) (PyProof.Rows.args_list_sort _)))
  · obtain ⟨j, hj⟩ := List.mem_iff_getElem?.mp hv
    obtain ⟨k, t, e3, e4, e5⟩ := hat j v hj
    rw [e4, kf_at e5]
    obtain ⟨t', o', t1, t2, n, g1, g2, g3, g4⟩ := tup2 e5
    exact ⟨t', o', t1, t2, n, g1, Heap.get?_push_of_some _ g2, g3, g4⟩
  · have e' : some o' = some (seqObj "list" acc.toList.toArray 0) := e.symm.trans hoL
    cases e'
    intro c
    exact absurd (Value.type.inj c) (by decide)
  · obtain ⟨e', he'⟩ := PyProof.Rows.sortedHeap_at (vs := acc.toList) (out := out.toArray) hoL
    have hp := h2.perm
    have h3 : ∀ u ∈ out, ∃ a, u = Value.ref a := fun u hu => e2 u (hp.mem_iff.mp hu)
    have hlen : (out.map backV).length ≤ sizeLine := by
      rw [List.length_map, hp.length_eq, hal, ← hlk]
      exact z
    refine wpAny_pure ⟨_, rfl, .ref h'.objs.size, upd H h'.objs.size (.lst (out.map backV)), I1.laid (t' := tk) (fun b u e => ?_) (Nat.le_refl _)
      (show ObjOk X.prog X.w _ _ _ (.lst (out.map backV)) from ⟨hlen, out, e', vals_back h3, he'⟩), rfl, q (out.map kf) _ _ ?_ ?_ (by rw [List.length_map, List.length_map]) (fun i y zz hy hz => ?_) (I1.hok.fresh (Nat.le_refl _))⟩
    · have hb : b < h'.objs.size := Heap.lt_size e
      rw [PyProof.Rows.sortedHeap_old (Nat.ne_of_lt hb) (by rw [size_push']; exact Nat.lt_succ_of_lt hb)]
      exact Heap.get?_push_of_some _ e
    · have := hp.map kf
      rwa [hmap] at this
    · refine List.pairwise_map.mpr (h1.imp fun {x y} g => lex_tot _ _ ?_)
      intro z
      rw [show SrtO.lexB (kf y) (kf x) = false from g] at z
      cases z
    · rw [List.getElem?_map] at hy hz
      cases eo : out[i]? with
      | none => rw [eo] at hy; cases hy
      | some u =>
        rw [eo] at hy hz
        obtain rfl : backV u = y := Option.some.inj hy
        obtain rfl : kf u = zz := Option.some.inj hz
        obtain ⟨j, hj⟩ := List.mem_iff_getElem?.mp (hp.mem_iff.mp (List.mem_of_getElem? eo))
        obtain ⟨k, t, e3, e4, e5⟩ := hat j u hj
        rw [e4, kf_at e5]
        exact ⟨t, rfl, e5⟩
end
end SDT

namespace ZLT
open PySem PySem.Spec PyProof.Rows L2
theorem nolen_zip : typeLookup (.type "zip") "__len__" = pure none := by rw [typeLookup_type, builtinLookup_eq_fast]; kernel_rfl
theorem nohint_zip : typeLookup (.type "zip") "__length_hint__" = pure none := by rw [typeLookup_type, builtinLookup_eq_fast]; kernel_rfl
section
variable {prog : Program} {w : World} {A : Around} {E : Value → Shared → Prop} {s : Shared} {z TI TO T i1 i2 l1 l2 : Addr} {f : Bool} {oT : Obj} {k1 k2 : Nat} {xs ys : Array Value}
/-- the next pair, where the tuple before is held elsewhere -/
theorem held_item {x y : Value} {Q : Option Value → Shared → Prop} (D : ZipApart z TI TO i1 i2 l1 l2) (hz : IsZipHeld s.heap z TI TO T f) (hT : s.heap.get? T = some oT) (hTI : IsPair s.heap TI (.ref i1) (.ref i2))
    (h1 : s.heap.IsTupleIter i1 l1 k1) (h2 : s.heap.IsTupleIter i2 l2 k2) (hl1 : s.heap.IsTuple l1 xs) (hl2 : s.heap.IsTuple l2 ys) (hx : xs[k1]? = some x) (hy : ys[k2]? = some y)
    (q : ∀ h, IsZipHeld h z TI TO T true → h.IsTupleIter i1 l1 (k1 + 1) → h.IsTupleIter i2 l2 (k2 + 1) → IsPair h s.heap.objs.size x y → h.objs.size = s.heap.objs.size + 1 → (∀ c o, c ≠ z → c ≠ i1 → c ≠ i2 → s.heap.get? c = some o → h.get? c = some o) → Q (some (.ref s.heap.objs.size)) { s with heap := h }) : wpAny (model prog w) A (pyNext (.ref z)) Q E s := by
  have ty : s.TypeIs (.ref z) "zip" := ⟨_, hz, rfl⟩
  have run : wpAny (model prog w) A.in1 (Builtin.«zip.__next__» ⟨[.ref z], []⟩) (fun fin t => ∃ v, fin = .done (.ret v) ∧ ∃ h, v = .ref s.heap.objs.size ∧ t = { s with heap := h } ∧ (IsZipHeld h z TI TO T true ∧ h.IsTupleIter i1 l1 (k1 + 1) ∧ h.IsTupleIter i2 l2 (k2 + 1) ∧ IsPair h s.heap.objs.size x y ∧ h.objs.size = s.heap.objs.size + 1 ∧ ∀ c o, c ≠ z → c ≠ i1 → c ≠ i2 → s.heap.get? c = some o → h.get? c = some o)) (fun _ _ => False) s := by
    change wpAny _ _ (field (.ref z) 2 >>= _) _ _ _
    apply wpAny_bind; apply wpAny_field hz rfl (x := .bool false) rfl
    change wpAny _ _ (field (.ref z) 3 >>= _) _ _ _
    apply wpAny_bind; apply wpAny_field hz rfl (x := .ref TI) rfl
    apply wpAny_bind; apply wpAny_seqItems hTI rfl
    change wpAny _ _ (Builtin.SmallTypes.ownedTupleIsFree (.ref z) >>= _) _ _ _
    apply wpAny_bind; apply wpAny_tupleHeld_zip hz hT; intro g1 z1 b1
    simp only [Bool.false_eq_true, if_false]
    apply wpAny_bind
    rw [← Array.forIn_toList]
    simp only [List.forIn_cons, List.forIn_nil]
    apply wpAny_bind; apply wpAny_bind; apply wpAny_holding
    change wpAny _ _ (Builtin.SmallTypes.nextOf (.ref i1) >>= _) _ _ _
    apply wpAny_bind; apply RZ.nextOf_tuple_item (s := { s with heap := g1 }) (h1.extBut b1.extBut D.i1z) (hl1.extBut b1.extBut D.l1z) hx; intro g2 j1 b2
    apply wpAny_pure; apply wpAny_pure
    apply wpAny_bind; apply wpAny_bind; apply wpAny_holding
    change wpAny _ _ (Builtin.SmallTypes.nextOf (.ref i2) >>= _) _ _ _
    apply wpAny_bind; apply RZ.nextOf_tuple_item (s := { s with heap := g2 }) ((h2.extBut b1.extBut D.i2z).extBut b2.extBut D.i12.symm) ((hl2.extBut b1.extBut D.l2z).extBut b2.extBut D.l2i1) hy; intro g3 j2 b3
    apply wpAny_pure; apply wpAny_pure; apply wpAny_pure
    change wpAny _ _ (newTuple [x, y] >>= _) _ _ _
    apply wpAny_bind; refine wpAny_newTuple ?_
    have sz : g3.objs.size = s.heap.objs.size := b3.1.trans (b2.1.trans b1.1)
    have up : ∀ c o, g3.get? c = some o → (g3.push { cls := .type "tuple", data := .seq #[x, y] }).get? c = some o := fun c o e => Heap.get?_push_of_some _ e
    have kp : ∀ c o, c ≠ z → c ≠ i1 → c ≠ i2 → s.heap.get? c = some o → g3.get? c = some o := fun c o c1 c2 c3 e => b3.extBut _ _ c3 (b2.extBut _ _ c2 (b1.extBut _ _ c1 e))
    have zz : IsZipHeld g3 z TI TO T true := b3.extBut _ _ D.i2z.symm (b2.extBut _ _ D.i1z.symm z1)
    have pr : IsPair (g3.push { cls := .type "tuple", data := .seq #[x, y] }) g3.objs.size x y := Heap.get?_push_size _ rfl
    have s4 : (g3.push { cls := .type "tuple", data := .seq #[x, y] }).objs.size = g3.objs.size + 1 := Heap.size_push ..
    have er : Value.ref g3.objs.size = Value.ref s.heap.objs.size := by rw [sz]
    rw [sz] at pr s4
    apply wpAny_pure
    exact ⟨_, rfl, _, er, rfl, up _ _ zz, (j1.extBut b3.extBut D.i12).at fun o e => up _ o e, j2.at fun o e => up _ o e, pr, s4, fun c o c1 c2 c3 e => up _ _ (kp c o c1 c2 c3 e)⟩
  unfold pyNext
  apply wpAny_bind; apply wpAny_attempt
  apply wpAny_callSpecial?_slot (name := Str.ofString "__next__") ty F.slot_zip_next
  refine wpAny_call_entry F.slot_zip_next ty F.entry_zip_next (wpAny_mono run (fun fin t y => ?_) fun _ _ z => z.elim) (F.args_zip_next_1 _)
  obtain ⟨v, e1, h, rfl, rfl, a1, a2, a3, a4, a5, a6⟩ := y
  exact ⟨_, e1, wpAny_pure (q h a1 a2 a3 a4 a5 a6)⟩
theorem held_end {Q : Option Value → Shared → Prop} (hh : A.handled = none) (D : ZipApart z TI TO i1 i2 l1 l2) (hz : IsZipHeld s.heap z TI TO T f) (hT : s.heap.get? T = some oT) (hTI : IsPair s.heap TI (.ref i1) (.ref i2))
    (h1 : s.heap.IsTupleIter i1 l1 k1) (h2 : s.heap.IsTupleIter i2 l2 k2) (hl1 : s.heap.IsTuple l1 xs) (hl2 : s.heap.IsTuple l2 ys) (hend : xs[k1]? = none ∨ ys[k2]? = none)
    (q : ∀ h, (∀ c o, c ≠ z → c ≠ i1 → c ≠ i2 → s.heap.get? c = some o → h.get? c = some o) → Q none { s with heap := h }) : wpAny (model prog w) A (pyNext (.ref z)) Q E s := by
  have ty : s.TypeIs (.ref z) "zip" := ⟨_, hz, rfl⟩
  have run : ∀ (Q0 : Fin → Shared → Prop) (E0 : Value → Shared → Prop), (∀ (g : Heap) (e : Addr), (∀ c o, c ≠ z → c ≠ i1 → c ≠ i2 → s.heap.get? c = some o → g.get? c = some o) → (∃ o, g.get? e = some o ∧ o.cls = .type "StopIteration") → E0 (.ref e) { s with heap := g }) → wpAny (model prog w) A.in1 (Builtin.«zip.__next__» ⟨[.ref z], []⟩) Q0 E0 s := by
    intro Q0 E0 stop
    change wpAny _ _ (field (.ref z) 2 >>= _) _ _ _
    apply wpAny_bind; apply wpAny_field hz rfl (x := .bool false) rfl
    change wpAny _ _ (field (.ref z) 3 >>= _) _ _ _
    apply wpAny_bind; apply wpAny_field hz rfl (x := .ref TI) rfl
    apply wpAny_bind; apply wpAny_seqItems hTI rfl
    change wpAny _ _ (Builtin.SmallTypes.ownedTupleIsFree (.ref z) >>= _) _ _ _
    apply wpAny_bind; apply wpAny_tupleHeld_zip hz hT; intro g1 z1 b1
    simp only [Bool.false_eq_true, if_false]
    apply wpAny_bind
    rw [← Array.forIn_toList]
    simp only [List.forIn_cons, List.forIn_nil]
    apply wpAny_bind; apply wpAny_bind; apply wpAny_holding
    change wpAny _ _ (Builtin.SmallTypes.nextOf (.ref i1) >>= _) _ _ _
    cases hx : xs[k1]? with
    | none =>
      apply wpAny_bind; apply RZ.nextOf_tuple_end (s := { s with heap := g1 }) (show A.in1.handled = none from hh) (h1.extBut b1.extBut D.i1z) (hl1.extBut b1.extBut D.l1z) hx; intro g2 e b2 he
      exact stop g2 e (fun c o c1 c2 _ x => b2 _ _ c2 (b1.extBut _ _ c1 x)) he
    | some x =>
      have hy : ys[k2]? = none := hend.resolve_left (by rw [hx]; exact fun z => nomatch z)
      apply wpAny_bind; apply RZ.nextOf_tuple_item (s := { s with heap := g1 }) (h1.extBut b1.extBut D.i1z) (hl1.extBut b1.extBut D.l1z) hx; intro g2 j1 b2
      apply wpAny_pure; apply wpAny_pure
      apply wpAny_bind; apply wpAny_bind; apply wpAny_holding
      change wpAny _ _ (Builtin.SmallTypes.nextOf (.ref i2) >>= _) _ _ _
      apply wpAny_bind; apply RZ.nextOf_tuple_end (s := { s with heap := g2 }) (show A.in1.handled = none from hh) ((h2.extBut b1.extBut D.i2z).extBut b2.extBut D.i12.symm) ((hl2.extBut b1.extBut D.l2z).extBut b2.extBut D.l2i1) hy; intro g3 e b3 he
      exact stop g3 e (fun c o c1 c2 c3 x => b3 _ _ c3 (b2.extBut _ _ c2 (b1.extBut _ _ c1 x))) he
  unfold pyNext
  apply wpAny_bind; apply wpAny_attempt
  apply wpAny_callSpecial?_slot (name := Str.ofString "__next__") ty F.slot_zip_next
  refine wpAny_call_entry F.slot_zip_next ty F.entry_zip_next (run _ _ fun g e kp he => ?_) (F.args_zip_next_1 _)
  obtain ⟨o, ho, hc⟩ := he
  apply wpAny_bind; refine wpAny_isInstance (T := "StopIteration") (b := true) ⟨o, ho, hc⟩ isSubtype_stop ?_
  exact wpAny_pure (q g kp)
end
/-- the zip at z, behind i items -/
def ZFree (h : Heap) (z TI TO : Addr) : Prop := IsZip h z TI TO .none ∧ ∃ a b, IsPair h TO a b
def ZHeld (h : Heap) (z TI TO : Addr) : Prop := ∃ T f oT, IsZipHeld h z TI TO T f ∧ h.get? T = some oT ∧ T ≠ z
structure ZAt (h : Heap) (z TI TO i1 i2 l1 l2 : Addr) (xs ys : Array Value) (i : Nat) : Prop where
  zz : ZFree h z TI TO ∨ ZHeld h z TI TO
  ti : IsPair h TI (.ref i1) (.ref i2)
  h1 : h.IsTupleIter i1 l1 i
  h2 : h.IsTupleIter i2 l2 i
  hl1 : h.IsTuple l1 xs
  hl2 : h.IsTuple l2 ys
theorem ZAt.keep {h h' : Heap} {z TI TO i1 i2 l1 l2 S : Addr} {xs ys : Array Value} {i : Nat} (a : ZAt h z TI TO i1 i2 l1 l2 xs ys i) (nS : ∀ c, c = z ∨ c = TI ∨ c = TO ∨ c = i1 ∨ c = i2 ∨ c = l1 ∨ c = l2 → c ≠ S)
    (k : ∀ b o, b ≠ S → h.get? b = some o → h'.get? b = some o) (kS : ∀ o, h.get? S = some o → ∃ o', h'.get? S = some o') : ZAt h' z TI TO i1 i2 l1 l2 xs ys i := by
  have n := nS
  refine ⟨?_, k _ _ (n _ (by simp)) a.ti, a.h1.at fun o e => k _ o (n _ (by simp)) e, a.h2.at fun o e => k _ o (n _ (by simp)) e, a.hl1.at fun o e => k _ o (n _ (by simp)) e, a.hl2.at fun o e => k _ o (n _ (by simp)) e⟩
  rcases a.zz with ⟨h1, x, y, h2⟩ | ⟨T, f, oT, h1, h2, h3⟩
  · exact .inl ⟨k _ _ (n _ (by simp)) h1, x, y, k _ _ (n _ (by simp)) h2⟩
  · by_cases e : T = S
    · subst e
      obtain ⟨o', ho'⟩ := kS _ h2
      exact .inr ⟨T, f, o', k _ _ (n _ (by simp)) h1, ho', h3⟩
    · exact .inr ⟨T, f, oT, k _ _ (n _ (by simp)) h1, k _ _ e h2, h3⟩
/-- the tuples made so far: at Ts, from n0 on, ascending -/
structure Made (h : Heap) (n0 : Nat) (xs ys : Array Value) (i : Nat) (Ts : List Addr) : Prop where
  len : Ts.length = i
  asc : Ts.Pairwise (· < ·)
  lo : ∀ t ∈ Ts, n0 ≤ t ∧ t < h.objs.size
  tup : ∀ (j : Nat) (t : Addr) (x y : Value), Ts[j]? = some t → xs[j]? = some x → ys[j]? = some y → IsPair h t x y
section
variable {prog : Program} {w : World} {A : Around} {E : Value → Shared → Prop}
theorem next_item {s : Shared} {z TI TO i1 i2 l1 l2 : Addr} {xs ys : Array Value} {i : Nat} {x y : Value} {Q : Option Value → Shared → Prop} (D : ZipApart z TI TO i1 i2 l1 l2) (a : ZAt s.heap z TI TO i1 i2 l1 l2 xs ys i) (hx : xs[i]? = some x) (hy : ys[i]? = some y)
    (hQ : ∀ h', ZAt h' z TI TO i1 i2 l1 l2 xs ys (i + 1) → IsPair h' s.heap.objs.size x y → h'.objs.size = s.heap.objs.size + 1 → (∀ c o, c ≠ z → c ≠ TO → c ≠ i1 → c ≠ i2 → s.heap.get? c = some o → h'.get? c = some o) → Q (some (.ref s.heap.objs.size)) { s with heap := h' }) :
    wpAny (model prog w) A (pyNext (.ref z)) Q E s := by
  rcases a.zz with ⟨h1, p, q, h2⟩ | ⟨T, f, oT, h1, h2, h3⟩
  · refine RZ.pyNext_zipT_item D h1 a.ti h2 a.h1 a.h2 a.hl1 a.hl2 hx hy fun h' a1 a2 a3 a4 a5 a6 k => hQ h' ⟨.inr ⟨_, _, _, a1, a5, Nat.ne_of_gt (Heap.lt_size h1)⟩, k _ _ D.TIz D.TITO D.TIi1 D.TIi2 a.ti, a3, a4, a.hl1.at fun o e => k _ o D.l1z D.l1TO D.l1i1 D.l1i2 e, a.hl2.at fun o e => k _ o D.l2z D.l2TO D.l2i1 D.l2i2 e⟩ a5 a6 k
  · refine held_item D h1 h2 a.ti a.h1 a.h2 a.hl1 a.hl2 hx hy fun h' a1 a3 a4 a5 a6 k => ?_
    have hz : s.heap.objs.size ≠ z := Nat.ne_of_gt (Heap.lt_size h1)
    refine hQ h' ⟨.inr ?_, k _ _ D.TIz D.TIi1 D.TIi2 a.ti, a3, a4, a.hl1.at fun o e => k _ o D.l1z D.l1i1 D.l1i2 e, a.hl2.at fun o e => k _ o D.l2z D.l2i1 D.l2i2 e⟩ a5 a6 fun c o c1 c2 c3 c4 e => k c o c1 c3 c4 e
    by_cases e1 : T = i1
    · subst e1
      obtain ⟨o', ho', _⟩ := a3
      exact ⟨T, true, o', a1, ho', h3⟩
    · by_cases e2 : T = i2
      · subst e2
        obtain ⟨o', ho', _⟩ := a4
        exact ⟨T, true, o', a1, ho', h3⟩
      · exact ⟨T, true, oT, a1, k _ _ h3 e1 e2 h2, h3⟩
theorem next_end {s : Shared} {z TI TO i1 i2 l1 l2 : Addr} {xs ys : Array Value} {i : Nat} {Q : Option Value → Shared → Prop} (hh : A.handled = none) (D : ZipApart z TI TO i1 i2 l1 l2) (a : ZAt s.heap z TI TO i1 i2 l1 l2 xs ys i) (he : xs[i]? = none ∨ ys[i]? = none)
    (hQ : ∀ h', (∀ c o, c ≠ z → c ≠ TO → c ≠ i1 → c ≠ i2 → s.heap.get? c = some o → h'.get? c = some o) → Q none { s with heap := h' }) :
    wpAny (model prog w) A (pyNext (.ref z)) Q E s := by
  rcases a.zz with ⟨h1, p, q, h2⟩ | ⟨T, f, oT, h1, h2, h3⟩
  · exact RZ.pyNext_zipT_end hh D h1 a.ti h2 a.h1 a.h2 a.hl1 a.hl2 he hQ
  · exact held_end hh D h1 h2 a.ti a.h1 a.h2 a.hl1 a.hl2 he fun h' k => hQ h' fun c o c1 _ c3 c4 e => k c o c1 c3 c4 e
theorem loop {R : Result → Shared → Prop} (hh : A.handled = none) {z TI TO i1 i2 l1 l2 S : Addr} {xs ys : Array Value} (D : ZipApart z TI TO i1 i2 l1 l2) (nS : ∀ c, c = z ∨ c = TI ∨ c = TO ∨ c = i1 ∨ c = i2 ∨ c = l1 ∨ c = l2 → c ≠ S) (res : Value) (n0 : Nat)
    (below : ∀ c, c = z ∨ c = TO ∨ c = i1 ∨ c = i2 ∨ c = S → c < n0) (hz : xs.size = ys.size) (hn : xs.size ≤ sizeLine) :
    ∀ (k i : Nat) (s : Shared) (Ts : List Addr) (c : Nat), xs.size - i = k → i ≤ xs.size → n0 ≤ s.heap.objs.size → ZAt s.heap z TI TO i1 i2 l1 l2 xs ys i → s.heap.get? S = some { cls := .type "list", dict := none, data := .seq (Ts.map Value.ref).toArray c, slots := #[] } → Made s.heap n0 xs ys i Ts →
      (∀ h' tk Ts' c', (∀ b o, b < n0 → b ≠ z → b ≠ TO → b ≠ i1 → b ≠ i2 → b ≠ S → s.heap.get? b = some o → h'.get? b = some o) → h'.get? S = some { cls := .type "list", dict := none, data := .seq (Ts'.map Value.ref).toArray c', slots := #[] } → Made h' n0 xs ys xs.size Ts' → R (.ok (.ret res)) { s with heap := h', toks := tk }) →
      codeAny (model prog w) A (.builtin "list.extend.loop" ⟨[.ref S, .ref z, res], []⟩) R s := by
  intro k
  induction k with
  | zero =>
    intro i s Ts c hk hi hsz hst hS hm hR
    have hin : i = xs.size := by omega
    subst hin
    refine codeAny_builtin F.entry_extend_loop ?_
    rw [Around.under_plainId F.plain_extend_loop _]
    show wpAny _ A.in1 (pyNext (.ref z) >>= _) _ _ s
    refine wpAny_bind (next_end (show A.in1.handled = none from hh) D hst (.inl (by simp)) fun h' kp => ?_)
    have sz : ∀ t ∈ Ts, t ≠ z ∧ t ≠ TO ∧ t ≠ i1 ∧ t ≠ i2 ∧ t ≠ S := fun t ht => by
      have l := (hm.lo t ht).1
      have g : ∀ c, c = z ∨ c = TO ∨ c = i1 ∨ c = i2 ∨ c = S → t ≠ c := fun c hc => Nat.ne_of_gt (Nat.lt_of_lt_of_le (below c hc) l)
      exact ⟨g _ (by simp), g _ (by simp), g _ (by simp), g _ (by simp), g _ (by simp)⟩
    have tups : ∀ (j : Nat) (t : Addr) (x y : Value), Ts[j]? = some t → xs[j]? = some x → ys[j]? = some y → IsPair h' t x y := fun j t x y e1 e2 e3 => by
      obtain ⟨q1, q2, q3, q4, q5⟩ := sz t (List.mem_of_getElem? e1)
      exact kp _ _ q1 q2 q3 q4 (hm.tup j t x y e1 e2 e3)
    refine wpAny_pure (hR h' s.toks Ts c (fun b o _ b1 b2 b3 b4 _ e => kp b o b1 b2 b3 b4 e) (kp _ _ (fun q => nS z (by simp) q.symm) (fun q => nS TO (by simp) q.symm) (fun q => nS i1 (by simp) q.symm) (fun q => nS i2 (by simp) q.symm) hS) ⟨hm.len, hm.asc, fun t ht => ⟨(hm.lo t ht).1, ?_⟩, tups⟩)
    obtain ⟨j, hj⟩ := List.mem_iff_getElem?.mp ht
    have hjl : j < Ts.length := (List.getElem?_eq_some_iff.mp hj).1
    have hjx : j < xs.size := by rw [← hm.len]; exact hjl
    exact Heap.lt_size (tups j t xs[j] (ys[j]'(by omega)) hj (Array.getElem?_eq_getElem hjx) (Array.getElem?_eq_getElem (by omega)))
  | succ k ih =>
    intro i s Ts c hk hi hsz hst hS hm hR
    have hlt : i < xs.size := by omega
    have hlt2 : i < ys.size := by omega
    refine codeAny_builtin F.entry_extend_loop ?_
    rw [Around.under_plainId F.plain_extend_loop _]
    show wpAny _ A.in1 (pyNext (.ref z) >>= _) _ _ s
    refine wpAny_bind (next_item D hst (Array.getElem?_eq_getElem hlt) (Array.getElem?_eq_getElem hlt2) fun h1 hst1 hp1 hs1 kp => ?_)
    have S1 : h1.get? S = some { cls := .type "list", dict := none, data := .seq (Ts.map Value.ref).toArray c, slots := #[] } := kp _ _ (fun q => nS z (by simp) q.symm) (fun q => nS TO (by simp) q.symm) (fun q => nS i1 (by simp) q.symm) (fun q => nS i2 (by simp) q.symm) hS
    show wpAny _ A.in1 (updateSeq S (·.push (.ref s.heap.objs.size)) >>= _) _ _ _
    refine wpAny_bind ?_
    have eS := Heap.get?_update_self (Obj.mapSeq (·.push (.ref s.heap.objs.size))) S1 rfl
    have oth : ∀ b o, b ≠ S → h1.get? b = some o → (h1.update S (Obj.mapSeq (·.push (.ref s.heap.objs.size)))).get? b = some o := fun b o hb e => (Heap.get?_update_other _ _ (Ne.symm hb)).trans e
    have sz2 : (h1.update S (Obj.mapSeq (·.push (.ref s.heap.objs.size)))).objs.size = s.heap.objs.size + 1 := by rw [Heap.size_update, hs1]
    have eT : ((Ts ++ [s.heap.objs.size]).map Value.ref).toArray = (Ts.map Value.ref).toArray.push (.ref s.heap.objs.size) := by simp
    refine wpAny_updateSeq (s := { s with heap := h1 }) S1 rfl (wpAny_pure ⟨plainId_quiet F.plain_extend_loop _, ih (i + 1) { s with heap := h1.update S (Obj.mapSeq (·.push (.ref s.heap.objs.size))) } (Ts ++ [s.heap.objs.size]) _ (by omega) hlt (by show n0 ≤ _; rw [sz2]; omega) (hst1.keep nS oth fun o e => ⟨_, eS⟩) (by rw [eT]; exact eS) ?_ fun h' tk Ts' c' k2 hS' hm' => ?_⟩)
      (by rw [List.size_toArray, List.length_map, hm.len]; omega) (by show ((Ts.map Value.ref).toArray.push (.ref s.heap.objs.size)).size ≤ sizeLine + 1; rw [Array.size_push, List.size_toArray, List.length_map, hm.len]; omega)
    · have sz : ∀ t ∈ Ts, t ≠ z ∧ t ≠ TO ∧ t ≠ i1 ∧ t ≠ i2 ∧ t ≠ S := fun t ht => by
        have l := (hm.lo t ht).1
        have g : ∀ c, c = z ∨ c = TO ∨ c = i1 ∨ c = i2 ∨ c = S → t ≠ c := fun c hc => Nat.ne_of_gt (Nat.lt_of_lt_of_le (below c hc) l)
        exact ⟨g _ (by simp), g _ (by simp), g _ (by simp), g _ (by simp), g _ (by simp)⟩
      refine ⟨by rw [List.length_append, hm.len]; rfl, ?_, fun t ht => ?_, fun j t x y e1 e2 e3 => ?_⟩
      · rw [List.pairwise_append]
        refine ⟨hm.asc, List.pairwise_singleton _ _, fun a ha b hb => ?_⟩
        rw [List.mem_singleton.mp hb]
        exact (hm.lo a ha).2
      · rcases List.mem_append.mp ht with ht | ht
        · exact ⟨(hm.lo t ht).1, Nat.lt_of_lt_of_eq (Nat.lt_succ_of_lt (hm.lo t ht).2) sz2.symm⟩
        · rw [List.mem_singleton.mp ht]
          exact ⟨hsz, Nat.lt_of_lt_of_eq (Nat.lt_succ_self _) sz2.symm⟩
      · by_cases hj : j < Ts.length
        · rw [List.getElem?_append_left hj] at e1
          obtain ⟨q1, q2, q3, q4, q5⟩ := sz t (List.mem_of_getElem? e1)
          exact oth _ _ q5 (kp _ _ q1 q2 q3 q4 (hm.tup j t x y e1 e2 e3))
        · rw [List.getElem?_append_right (by omega)] at e1
          have hj0 : j - Ts.length = 0 := by
            have := (List.getElem?_eq_some_iff.mp e1).1
            simp at this
            omega
          rw [hj0] at e1
          have et : s.heap.objs.size = t := by simpa using e1
          have hji : j = i := by
            have := hm.len
            omega
          subst hji
          rw [Array.getElem?_eq_getElem hlt] at e2
          rw [Array.getElem?_eq_getElem hlt2] at e3
          rw [← et, ← Option.some.inj e2, ← Option.some.inj e3]
          exact oth _ _ (Nat.ne_of_gt (Nat.lt_of_lt_of_le (below S (by simp)) hsz)) hp1
    · exact hR h' tk Ts' c' (fun b o hb b1 b2 b3 b4 b5 e => k2 b o hb b1 b2 b3 b4 b5 (oth b o b5 (kp b o b1 b2 b3 b4 e))) hS' hm'
theorem extend_zip {s : Shared} {R : Result → Shared → Prop} (hh : A.handled = none) {z TI TO i1 i2 l1 l2 S : Addr} {xs ys : Array Value} {c0 : Nat} (D : ZipApart z TI TO i1 i2 l1 l2) (nS : ∀ c, c = z ∨ c = TI ∨ c = TO ∨ c = i1 ∨ c = i2 ∨ c = l1 ∨ c = l2 → c ≠ S) (res : Value)
    (hz : xs.size = ys.size) (hn : xs.size ≤ sizeLine) (hst : ZAt s.heap z TI TO i1 i2 l1 l2 xs ys 0) (hf : IsZip s.heap z TI TO .none) (lt : ∀ c, c = z ∨ c = TO ∨ c = i1 ∨ c = i2 ∨ c = S → c < s.heap.objs.size) (hS : s.heap.get? S = some { cls := .type "list", data := .seq #[] c0 })
    (hR : ∀ h' tk Ts' c', (∀ b o, b < s.heap.objs.size → b ≠ z → b ≠ TO → b ≠ i1 → b ≠ i2 → b ≠ S → s.heap.get? b = some o → h'.get? b = some o) → h'.get? S = some { cls := .type "list", dict := none, data := .seq (Ts'.map Value.ref).toArray c', slots := #[] } → Made h' s.heap.objs.size xs ys xs.size Ts' → R (.ok (.ret res)) { s with heap := h', toks := tk }) :
    wpAny (model prog w) A.in1 (Builtin.List.listExtendWith (.ref S) (.ref z) res)
      (fun fin s' => match fin with | .done f => R (.ok f) s' | .again c' => c'.quiet = true ∧ codeAny (model prog w) A c' R s') (fun e s' => R (.error e) s') s := by
  have hSz : S ≠ z := fun q => nS z (by simp) q.symm
  have hT : s.TypeIs (.ref z) "zip" := ⟨_, hf, rfl⟩
  unfold Builtin.List.listExtendWith
  refine wpAny_bind (wpAny_typeOf hT ?_)
  have h1 : Builtin.List.listSameRef (.ref S) (.ref z) = false := by simp [Builtin.List.listSameRef, hSz]
  have h2 : (Value.type "zip" == Value.type "list") = false := by decide
  have h3 : (Value.type "zip" == Value.type "tuple") = false := by decide
  simp only [h1, h2, h3, Bool.or_false, Bool.false_eq_true, if_false]
  refine wpAny_bind (wpAny_pyIter_zip hf ?_)
  refine wpAny_bind (wpAny_holding ?_)
  unfold Builtin.List.listLengthHint
  refine wpAny_bind (wpAny_specialOf hT nolen_zip ?_)
  show wpAny _ A.in1 (specialOf (Value.ref z) (Str.ofString "__length_hint__") >>= _) _ _ _
  refine wpAny_bind (wpAny_specialOf hT nohint_zip ?_)
  refine wpAny_pure ?_
  show wpAny _ A.in1 (rule "list.extend.makes-room" >>= fun _ => Builtin.List.listTouch (.ref S) >>= fun _ =>
    again (.builtin "list.extend.loop" ⟨[.ref S, .ref z, res], []⟩)) _ _ _
  refine wpAny_bind (wpAny_rule ?_)
  refine wpAny_bind ?_
  show wpAny _ A.in1 (updateSeq S (·.push .none) >>= fun _ => updateSeq S (·.pop)) _ _ _
  refine wpAny_bind (wpAny_updateSeq hS rfl ?_)
  have hS₂ := Heap.get?_update_self (Obj.mapSeq (·.push Value.none)) hS rfl
  refine wpAny_updateSeq (hz := by seq_fits) hS₂ rfl ?_
  have hS₃ := Heap.get?_update_self (Obj.mapSeq (·.pop)) hS₂ rfl
  have oth : ∀ b o, b ≠ S → s.heap.get? b = some o → ((s.heap.update S (Obj.mapSeq (·.push Value.none))).update S (Obj.mapSeq (·.pop))).get? b = some o :=
    fun b o hb e => (Heap.get?_update_other _ _ (Ne.symm hb)).trans ((Heap.get?_update_other _ _ (Ne.symm hb)).trans e)
  have szz : ((s.heap.update S (Obj.mapSeq (·.push Value.none))).update S (Obj.mapSeq (·.pop))).objs.size = s.heap.objs.size := by rw [Heap.size_update, Heap.size_update]
  refine wpAny_pure ⟨plainId_quiet F.plain_extend_loop _, loop hh D nS res s.heap.objs.size lt hz hn xs.size 0 _ [] _ rfl (Nat.zero_le _) (Nat.le_of_eq szz.symm) (hst.keep nS oth fun o _ => ⟨_, hS₃⟩) hS₃ ⟨rfl, List.Pairwise.nil, (fun t ht => by cases ht), (fun j t x y e => by simp at e)⟩ fun h' tk Ts' c' k hS' hm => ?_⟩
  exact hR h' tk Ts' c' (fun b o hb b1 b2 b3 b4 b5 e => k b o hb b1 b2 b3 b4 b5 (oth b o b5 e)) hS' hm
theorem init_zip {s : Shared} {R : Result → Shared → Prop} (hh : A.handled = none) {z TI TO i1 i2 l1 l2 S : Addr} {xs ys : Array Value} (D : ZipApart z TI TO i1 i2 l1 l2) (nS : ∀ c, c = z ∨ c = TI ∨ c = TO ∨ c = i1 ∨ c = i2 ∨ c = l1 ∨ c = l2 → c ≠ S)
    (hz : xs.size = ys.size) (hn : xs.size ≤ sizeLine) (hst : ZAt s.heap z TI TO i1 i2 l1 l2 xs ys 0) (hf : IsZip s.heap z TI TO .none) (lt : ∀ c, c = z ∨ c = TO ∨ c = i1 ∨ c = i2 ∨ c = S → c < s.heap.objs.size) (hS : s.heap.get? S = some { cls := .type "list", data := .seq #[] })
    (hR : ∀ h' tk Ts' c', (∀ b o, b < s.heap.objs.size → b ≠ z → b ≠ TO → b ≠ i1 → b ≠ i2 → b ≠ S → s.heap.get? b = some o → h'.get? b = some o) → h'.get? S = some { cls := .type "list", dict := none, data := .seq (Ts'.map Value.ref).toArray c', slots := #[] } → Made h' s.heap.objs.size xs ys xs.size Ts' → R (.ok (.ret .none)) { s with heap := h', toks := tk }) :
    wpAny (model prog w) A.in1 (Builtin.«list.__init__» ⟨[.ref S, .ref z], []⟩)
      (fun fin s' => match fin with | .done f => R (.ok f) s' | .again c' => c'.quiet = true ∧ codeAny (model prog w) A c' R s') (fun e s' => R (.error e) s') s := by
  show wpAny _ A.in1 (do let old ← Builtin.List.listItems (.ref S); Builtin.List.listUpdate (.ref S) (fun _ => #[]); letGo old.toList.reverse; Builtin.List.listExtendWith (.ref S) (.ref z) .none) _ _ s
  refine wpAny_bind ?_
  unfold Builtin.List.listItems
  refine wpAny_bind (wpAny_seqItems hS rfl (wpAny_pure ?_))
  show wpAny _ A.in1 (updateSeq S (fun _ => #[]) >>= fun _ => letGo (#[] : Array Value).toList.reverse >>= fun _ => Builtin.List.listExtendWith (.ref S) (.ref z) .none) _ _ s
  refine wpAny_bind (wpAny_updateSeq hS rfl ?_)
  have hS₂ := Heap.get?_update_self (Obj.mapSeq (fun _ => (#[] : Array Value))) hS rfl
  have oth : ∀ b o, b ≠ S → s.heap.get? b = some o → (s.heap.update S (Obj.mapSeq (fun _ => (#[] : Array Value)))).get? b = some o :=
    fun b o hb e => (Heap.get?_update_other _ _ (Ne.symm hb)).trans e
  have szz : (s.heap.update S (Obj.mapSeq (fun _ => (#[] : Array Value)))).objs.size = s.heap.objs.size := Heap.size_update ..
  refine wpAny_bind (wpAny_letGo ?_)
  refine extend_zip (s := { s with heap := s.heap.update S (Obj.mapSeq (fun _ => (#[] : Array Value))) }) hh D nS .none hz hn (hst.keep nS oth fun o _ => ⟨_, hS₂⟩) (oth _ _ (nS z (by simp)) hf) (fun c hc => Nat.lt_of_lt_of_eq (lt c hc) szz.symm) hS₂ fun h' tk Ts' c' k hS' hm => ?_
  refine hR h' tk Ts' c' (fun b o hb b1 b2 b3 b4 b5 e => k b o (Nat.lt_of_lt_of_eq hb szz.symm) b1 b2 b3 b4 b5 (oth b o b5 e)) hS' ?_
  have e : (s.heap.update S (Obj.mapSeq (fun _ => (#[] : Array Value)))).objs.size = s.heap.objs.size := szz
  exact e ▸ hm
theorem call_list_zip {s : Shared} {Q : Value → Shared → Prop} (hh : A.handled = none) {z TI TO i1 i2 l1 l2 : Addr} {xs ys : Array Value} (D : ZipApart z TI TO i1 i2 l1 l2) (hz : xs.size = ys.size) (hn : xs.size ≤ sizeLine) (hst : ZAt s.heap z TI TO i1 i2 l1 l2 xs ys 0) (hf : IsZip s.heap z TI TO .none)
    (lt : ∀ c, c = z ∨ c = TI ∨ c = TO ∨ c = i1 ∨ c = i2 ∨ c = l1 ∨ c = l2 → c < s.heap.objs.size)
    (hQ : ∀ h' tk Ts' c', (∀ b o, b < s.heap.objs.size → b ≠ z → b ≠ TO → b ≠ i1 → b ≠ i2 → s.heap.get? b = some o → h'.get? b = some o) → h'.get? s.heap.objs.size = some { cls := .type "list", dict := none, data := .seq (Ts'.map Value.ref).toArray c', slots := #[] } → Made h' (s.heap.objs.size + 1) xs ys xs.size Ts' → Q (.ref s.heap.objs.size) { s with heap := h', toks := tk }) :
    wpAny (model prog w) A (call (.type "list") [.ref z]) Q E s := by
  refine callType_codes (Q₁ := fun obj s₁ => obj = .ref s.heap.objs.size ∧ s₁ = { s with heap := s.heap.push { cls := .type "list", data := .seq #[] } }) F.called_list (F.typeCall_list_1 _) F.entry_list_init
    (code_list_new _ ⟨rfl, rfl⟩) fun obj s₁ h₁ => ?_
  obtain ⟨rfl, rfl⟩ := h₁
  have hS : (s.heap.push { cls := .type "list", data := .seq #[] }).get? s.heap.objs.size = some { cls := .type "list", data := .seq #[] } := Heap.get?_push_size _ rfl
  have nS : ∀ c, c = z ∨ c = TI ∨ c = TO ∨ c = i1 ∨ c = i2 ∨ c = l1 ∨ c = l2 → c ≠ s.heap.objs.size := fun c hc => Nat.ne_of_lt (lt c hc)
  have up : ∀ b o, s.heap.get? b = some o → (s.heap.push { cls := .type "list", data := .seq #[] }).get? b = some o := fun b o e => Heap.get?_push_of_some _ e
  have szz : (s.heap.push { cls := .type "list", data := .seq #[] }).objs.size = s.heap.objs.size + 1 := Heap.size_push ..
  have hst2 : ZAt (s.heap.push { cls := .type "list", data := .seq #[] }) z TI TO i1 i2 l1 l2 xs ys 0 := hst.keep nS (fun b o _ e => up b o e) fun o e => absurd (Heap.lt_size e) (Nat.lt_irrefl _)
  refine ⟨⟨_, hS, rfl⟩, F.args_list_init_2 _ _, init_zip (A := A.in1) (s := { s with heap := s.heap.push { cls := .type "list", data := .seq #[] } }) hh D nS hz hn hst2 (up _ _ hf) (fun c hc => ?_) hS fun h' tk Ts' c' k hS' hm => ?_⟩
  · refine Nat.lt_of_lt_of_eq ?_ szz.symm
    rcases hc with q | q | q | q | q
    · exact Nat.lt_succ_of_lt (lt c (by simp [q]))
    · exact Nat.lt_succ_of_lt (lt c (by simp [q]))
    · exact Nat.lt_succ_of_lt (lt c (by simp [q]))
    · exact Nat.lt_succ_of_lt (lt c (by simp [q]))
    · rw [q]
      exact Nat.lt_succ_self _
  · have e : (s.heap.push { cls := .type "list", data := .seq #[] }).objs.size = s.heap.objs.size + 1 := szz
    exact ⟨rfl, hQ h' tk Ts' c' (fun b o hb b1 b2 b3 b4 q => k b o (Nat.lt_of_lt_of_eq (Nat.lt_succ_of_lt hb) szz.symm) b1 b2 b3 b4 (Nat.ne_of_lt hb) (up b o q)) hS' (e ▸ hm)⟩
end
/-- many new objects laid at once -/
theorem laidMany {X : Cx} {pins : List (Addr × Obj)} {σ : L2.St} {H H' : Hp} {s : Shared} {h' : Heap} {t' : Nat} (I : Inv X pins σ H s) (k : ∀ b u, s.heap.get? b = some u → h'.get? b = some u) (old : ∀ b, b < s.heap.objs.size → H' b = H b)
    (new : ∀ b o, s.heap.objs.size ≤ b → H' b = some o → ObjOk X.prog X.w H' h' b o) : Inv X pins σ H' { s with heap := h', toks := t' } := by
  have at_ : ∀ b u, H b = some u → H' b = some u := fun b u e => by
    rw [old b (ObjOk.lt (I.hok b u e))]
    exact e
  refine I.step (g' := s.gens) (d' := s.drawn) (ch := []) (fun b hb => absurd hb (by simp)) (fun b o _ _ _ e _ => k b o e) (fun b o _ _ _ e _ => ⟨o.slots, k b o e⟩) (fun b o _ e n => by rw [old b (Heap.lt_size e)]; exact n) (fun b o _ e => ⟨o, k b o e⟩)
    (fun b xs e => at_ b _ e) (fun b o u e => at_ b _ e) (fun b ps e => ⟨#[], by rw [at_ b _ e]; simp⟩) (fun m hm => ?_) (fun b u e => ?_) I.bare
  · obtain ⟨o, es, ep, ho, r⟩ := hm
    exact ⟨o, es, ep, k _ o ho, r⟩
  · by_cases hb : b < s.heap.objs.size
    · rw [old b hb] at e
      exact (I.hok b u e).stay (fun c v _ q => k c v q) (fun c q => at_ c _ q) fun c xs q => at_ c _ q
    · exact new b u (Nat.le_of_not_lt hb) e
/-- list(zip(a, b)), two tuples of one length: a new list of new pairs -/
def tListZip (K : PySem.W.Frag) (ta : TA) : TE := fun σ H Q => ta σ H fun vs H1 => ∃ (a b : Addr) (xs ys : List V), vs = [.ref a, .ref b] ∧ SqT K H1 a xs ∧ SqT K H1 b ys ∧ xs.length = ys.length ∧
  ∀ (q : Addr) (ts : List Addr) (H2 : Hp), H1 q = none → (∀ t ∈ ts, H1 t = none) → q ∉ ts → ts.Nodup → ts.length = xs.length → H2 q = some (.lst (ts.map V.ref)) →
    (∀ (j : Nat) (t : Addr) (x y : V), ts[j]? = some t → xs[j]? = some x → ys[j]? = some y → H2 t = some (.tup [x, y])) → (∀ b, b ≠ q → b ∉ ts → H2 b = H1 b) → Q (.ref q) H2
theorem pe_listZip {X : Cx} {e1 e2 : Expr} {ta : TA} {p p2 pos pos2 : Pos} (hc : X.calm = true) (hg : Gl X "list") (hm : X.mg "list" = none) (hg2 : Gl X "zip") (hm2 : X.mg "zip" = none) (ha : PA X [e1, e2] ta)
    (hs2 : starEach [e1, e2] X.env = (false, eval e1 X.env) :: starEach [e2] X.env := by rfl) (hpl : (backTo pos2 (starEach [e2] X.env)).any (·.1) = false := by rfl)
    (hs : starEach [.Call (.Name "zip" p2) [e1, e2] [] pos2] X.env = (false, eval (.Call (.Name "zip" p2) [e1, e2] [] pos2) X.env) :: starEach [] X.env := by rfl) :
    PE X (.Call (.Name "list" p) [.Call (.Name "zip" p2) [e1, e2] [] pos2] [] pos) (tListZip X.K ta) := by
  refine ⟨fun pins s σ H Q I h => ?_⟩
  refine Call_ (ld_blt I hg hm boot_list (PyProof.Rows.callWith_type1 (args_cons (Call_ (ld_blt I hg2 hm2 PyProof.Rows.boot_zip (PyProof.Rows.callWith_type1 (thn (ha.run pos2 pins s σ H _ I h) fun us s1 ⟨vs, H1, I1, r1, q1⟩ => ?_) hs2 hpl))) hs) hs rfl))
  obtain ⟨a, b, xs, ys, ev, hqx, hqy, hxy, q⟩ := q1
  subst ev
  cases r1 with
  | cons r rr =>
    cases rr with
    | cons r' rr =>
      cases rr
      cases r
      cases r'
      obtain ⟨its, rv, p1, hz1⟩ := I1.tuple hqx
      obtain ⟨its2, rv2, p2', _⟩ := I1.tuple hqy
      refine RZ.call_zipT (show s1.heap.IsTuple a its.toArray from p1) (show s1.heap.IsTuple b its2.toArray from p2') fun h1 hz hTI hTO i1 i2 hsz hk => args_nil ?_
      have D := PySem.W.ktu_apart s1.heap.objs.size a b (let ⟨_, e, _⟩ := (show s1.heap.IsTuple a its.toArray from p1); Heap.lt_size e) (let ⟨_, e, _⟩ := (show s1.heap.IsTuple b its2.toArray from p2'); Heap.lt_size e)
      have l1 := (let ⟨_, e, _⟩ := (show s1.heap.IsTuple a its.toArray from p1); Heap.lt_size e)
      have l2 := (let ⟨_, e, _⟩ := (show s1.heap.IsTuple b its2.toArray from p2'); Heap.lt_size e)
      have eL : its.toArray.size = its2.toArray.size := by rw [List.size_toArray, List.size_toArray, ← rv.length, ← rv2.length, hxy]
      refine call_list_zip (s := { s1 with heap := h1 }) (I1.ok.hd hc) D eL (by rw [List.size_toArray, ← rv.length]; exact hz1) ⟨.inl ⟨hz, _, _, hTO⟩, hTI, i1, i2, (show s1.heap.IsTuple a its.toArray from p1).at fun o e => hk _ o e, (show s1.heap.IsTuple b its2.toArray from p2').at fun o e => hk _ o e⟩ hz (fun c hc => ?_) fun h' tk Ts c' k hS hm => ?_
      · show c < h1.objs.size
        rw [hsz]
        rcases hc with z | z | z | z | z | z | z <;> rw [z] <;> first | exact Nat.lt_of_lt_of_le ‹_› (Nat.le_add_right _ _) | simp
      · have S5 : (({ s1 with heap := h1 } : Shared)).heap.objs.size = s1.heap.objs.size + 5 := hsz
        have kp : ∀ b o, s1.heap.get? b = some o → h'.get? b = some o := fun b o e => by
          have lb := Heap.lt_size e
          have lt5 : b < (({ s1 with heap := h1 } : Shared)).heap.objs.size := by rw [S5]; exact Nat.lt_of_lt_of_le lb (Nat.le_add_right _ _)
          refine k b o lt5 ?_ ?_ ?_ ?_ (hk b o e)
          · exact Nat.ne_of_lt (Nat.lt_of_lt_of_le lb (Nat.le_add_right _ _))
          · exact Nat.ne_of_lt (Nat.lt_of_lt_of_le lb (Nat.le_add_right _ _))
          · exact Nat.ne_of_lt lb
          · exact Nat.ne_of_lt (Nat.lt_of_lt_of_le lb (Nat.le_add_right _ _))
        have S5' : h1.objs.size = s1.heap.objs.size + 5 := hsz
        have hS' : h'.get? h1.objs.size = some { cls := .type "list", dict := none, data := .seq (Ts.map Value.ref).toArray c', slots := #[] } := hS
        have loT : ∀ t ∈ Ts, h1.objs.size < t := fun t ht => Nat.lt_of_succ_le (hm.lo t ht).1
        have nqT : h1.objs.size ∉ Ts := fun z => Nat.lt_irrefl _ (loT _ z)
        have lenT : Ts.length = xs.length := by rw [hm.len, List.size_toArray, ← rv.length]
        have nd : Ts.Nodup := hm.asc.imp fun h => Nat.ne_of_lt h
        let H2 : Hp := fun b => if b = h1.objs.size then some (.lst (Ts.map V.ref)) else match Ts.idxOf? b with
          | some j => (match xs[j]?, ys[j]? with
            | some x, some y => some (.tup [x, y])
            | _, _ => H1 b)
          | none => H1 b
        have eT : ∀ (j : Nat) (t : Addr) (x y : V), Ts[j]? = some t → xs[j]? = some x → ys[j]? = some y → H2 t = some (.tup [x, y]) := fun j t x y e1 e2 e3 => by
          have nt : t ≠ h1.objs.size := Nat.ne_of_gt (loT t (List.mem_of_getElem? e1))
          show (if t = h1.objs.size then _ else _) = _
          rw [if_neg nt]
          have ei : Ts.idxOf? t = some j := by
            obtain ⟨hj, ej⟩ := List.getElem?_eq_some_iff.mp e1
            rw [List.idxOf?_eq_some_iff]
            refine ⟨hj, ej, fun k hkj z => ?_⟩
            have := (List.pairwise_iff_getElem.mp hm.asc) k j (by omega) hj hkj
            rw [z, ej] at this
            exact Nat.lt_irrefl _ this
          rw [ei]
          show (match xs[j]?, ys[j]? with
            | some x, some y => some (HO.tup [x, y])
            | _, _ => H1 t) = _
          rw [e2, e3]
        have eO : ∀ b, b ≠ h1.objs.size → b ∉ Ts → H2 b = H1 b := fun b n1 n2 => by
          show (if b = h1.objs.size then _ else _) = _
          rw [if_neg n1, List.idxOf?_eq_none_iff.mpr n2]
        have eq : H2 h1.objs.size = some (.lst (Ts.map V.ref)) := if_pos rfl
        have fr : ∀ b, s1.heap.objs.size ≤ b → H1 b = none := fun b hb => I1.hok.fresh hb
        have J : Inv X pins σ H2 { s1 with heap := h', toks := tk } := by
          refine laidMany I1 kp (fun b hb => eO b ?_ fun z => ?_) fun b o hb e => ?_
          · rw [S5']
            exact Nat.ne_of_lt (Nat.lt_of_lt_of_le hb (Nat.le_add_right _ _))
          · have := loT b z
            rw [S5'] at this
            omega
          · by_cases e1 : b = h1.objs.size
            · subst e1
              rw [eq] at e
              cases e
              refine ⟨by rw [List.length_map, lenT]; exact hz1, Ts.map Value.ref, c', ?_, hS'⟩
              have : ∀ l : List Addr, Vals (l.map V.ref) (l.map Value.ref) := fun l => by
                induction l with
                | nil => exact .nil
                | cons a l ih => exact .cons rfl ih
              exact this Ts
            · by_cases e2 : b ∈ Ts
              · obtain ⟨j, hj⟩ := List.mem_iff_getElem?.mp e2
                have jl : j < xs.length := by rw [← lenT]; exact (List.getElem?_eq_some_iff.mp hj).1
                have ex : xs[j]? = some xs[j] := List.getElem?_eq_getElem jl
                have ey : ys[j]? = some (ys[j]'(by omega)) := List.getElem?_eq_getElem (by omega)
                rw [eT j b _ _ hj ex ey] at e
                cases e
                obtain ⟨u, hu, ru⟩ := rv.get ex
                obtain ⟨u2, hu2, ru2⟩ := rv2.get ey
                have pr : IsPair h' b u u2 := hm.tup j b u u2 hj (by rw [List.getElem?_toArray]; exact hu) (by rw [List.getElem?_toArray]; exact hu2)
                refine ⟨by simp [sizeLine_eq], [u, u2], .cons ru (.cons ru2 .nil), ?_⟩
                exact ⟨_, pr, rfl, 0, rfl⟩
              · rw [eO b e1 e2, fr b hb] at e
                cases e
        refine ⟨.ref h1.objs.size, H2, J, rfl, q _ Ts H2 (fr _ (by rw [S5']; exact Nat.le_add_right _ _)) (fun t ht => fr _ ?_) nqT nd lenT eq eT eO⟩
        have := loT t ht
        rw [S5'] at this
        omega
end ZLT

namespace X2
open PySem PySem.Spec PyProof.Rows L2
/-! exceptions of own classes over an own base, with an __init__ that calls the base's and keeps one field -/
/-- what the text leaves of such a class C, its __init__ at fI, its field n -/
structure XO (K : PySem.W.Frag) (C fI : Addr) (n : Str) : Prop where
  ox : OexC K C
  xc : ExcC K C
  no : PySem.W.findIn K (.ref C) n = some none
  ii : PySem.W.findIn K (.ref C) "__init__" = some (some (.ref fI))
  ti : PySem.W.typeIn K (.ref fI) = some (.type "function")
theorem XO.xf {K : PySem.W.Frag} {C fI : Addr} {n : Str} (T : XO K C fI n) : XfC K C := ⟨T.xc.hg, T.xc.hk, T.xc.hs, T.xc.hd⟩
/-- the base B, whose __init__ is ValueError's -/
structure XB (K : PySem.W.Frag) (B : Addr) : Prop where
  rd : PySem.W.readsIn K B (.type "type") = true
  ga : PySem.W.specialIn K (.ref B) "__getattribute__" = some (some (.builtin "type.__getattribute__"))
  vi : PySem.W.findCls K (.ref B) (.type "type") "__init__" = some (.val (.builtin "ValueError.__init__"))
section
variable {X : Cx} {e : Expr} {es : List Expr} {ta : TA} {p1 p2 pos : Pos} {x : Str} {B : Addr}
/-- B.__init__(self, ..) -/
theorem pe_binit {pl : Sem Bool} (hg : Gl X x) (hm : X.mg x = some (.ref B)) (T : XB X.K B) (ha : PA X (e :: es) ta)
    (hdb : (x == ("__debug__" : Str)) = false := by decide)
    (hc : eval (.Call (.Attribute (.Name x p1) "__init__" p2) (e :: es) [] pos) X.env = (do
      let bv ← eval (.Name x p1) X.env
      standAt p2.atName
      let (fn, fst) ← holding [bv] (getMethod bv "__init__" pl)
      callWith pos fn fst (backTo pos (starEach (e :: es) X.env)) (backToKw pos (keywordEach [] X.env))) := by rfl)
    (he : starEach (e :: es) X.env = (false, eval e X.env) :: starEach es X.env := by rfl) (hpl : (backTo pos (starEach es X.env)).any (·.1) = false := by rfl) :
    PE X (.Call (.Attribute (.Name x p1) "__init__" p2) (e :: es) [] pos) (tVeI X.K ta) := by
  refine ⟨fun pins s σ H Q I h => ?_⟩
  refine PySem.W.methodCall_KW (ld_glob I hg hm ?_ hdb) hc
  refine PySem.W.method_cls I.kIn T.ga (PySem.W.cls_value I.kIn T.rd T.vi (by decide +kernel) ?_)
  show wpAny _ _ (callWith pos (Value.builtin "ValueError.__init__") [] (backTo pos (starEach (e :: es) X.env)) []) _ _ _
  refine PyProof.Rows.callWith_method1 (thn (ha.run pos pins _ σ H _ (I.tok _) h) fun us s1 hh => ?_) he hpl
  obtain ⟨vs, H1, I1, r1, a, C, ws, ev, hl, TC, ea, q⟩ := hh
  subst ev
  cases r1 with
  | @cons _ u0 _ ur ra rw' =>
    obtain rfl : u0 = Value.ref a := ra
    have hz : ur.length ≤ sizeLine := by
      rw [← Paired.length rw', sizeLine_eq]
      omega
    exact oinit_ok TC I1 ea hz fun s' J => ⟨.non, H1, J, rfl, q⟩
end
/-- isinstance(e, c), e the exception that the suite holds, with or without a dict -/
def hasD (H : Hp) (d : Option Addr) : Prop := d = none ∨ ∃ dd fs, d = some dd ∧ H dd = some (.xd fs)
def rIsX1 (K : PySem.W.Frag) (a : Addr) (cls : Value) (d : Option Addr) : List V → Hp → VK → Prop := fun xs H Q => ∃ (D : Addr) (c : V) (cv : Value) (b : Bool), cls = .ref D ∧ hasD H d ∧ ExcC K D ∧ xs = [.ref a, c] ∧ ClsV c cv ∧ PySem.W.kitOne K (.ref D) cv = some b ∧ Q (.bl b) H
def rIsXT (K : PySem.W.Frag) (a : Addr) (cls : Value) (d : Option Addr) : List V → Hp → VK → Prop := fun xs H Q => ∃ (D tp : Addr) (cs : List V) (us : List Value) (b : Bool), cls = .ref D ∧ hasD H d ∧ ExcC K D ∧ xs = [.ref a, .ref tp] ∧ H tp = some (.tup cs) ∧ Paired ClsV cs us ∧ PySem.W.kitAny K (.ref D) us = some b ∧ Q (.bl b) H
theorem isx_at {X : Cx} {pins : List (Addr × Obj)} {σ : L2.St} {H : Hp} {s : Shared} {a D : Addr} {d : Option Addr} {oe : Obj} (I : Inv X pins σ H s) (hz : Zc (.ref D) d oe) (hf : ∃ vs, oe.data = .fields vs) (hget : s.heap.get? a = some oe) (hd : hasD H d) : ∃ od, PySem.W.InstAt s.heap a oe D od := by
  obtain ⟨vs, hv⟩ := hf
  rcases hd with e | ⟨dd, fs, e, ha⟩
  · subst e
    refine ⟨none, hget, hz.1, by unfold PySem.W.notCls; rw [hv] <;> rfl, ?_⟩
    rw [hz.2]
    trivial
  · subst e
    have ok : ObjOk X.prog X.w H s.heap dd (.xd fs) := I.hok dd _ ha
    obtain ⟨mA, hns, hr⟩ := ok
    obtain ⟨od, ho, hl⟩ := lookIn_ns hns
    refine ⟨some od, hget, hz.1, by unfold PySem.W.notCls; rw [hv] <;> rfl, ?_⟩
    rw [hz.2]
    exact ho
theorem xc_cls {K : PySem.W.Frag} {D : Addr} (C : ExcC K D) : (PySem.W.clsIn K D).isSome = true := by
  obtain ⟨cd, hc, _⟩ := PySem.W.any_some C.hd
  rw [hc]
  rfl
theorem call_isX1 {X : Cx} {a : Addr} {cls : Value} {d : Option Addr} {oe : Obj} {pn : List (Addr × Obj)} (hz : Zc cls d oe) (hf : ∃ vs, oe.data = .fields vs) : CallR (X.suite a ((a, oe) :: pn)) (.builtin "isinstance") (rIsX1 X.K a cls d) := by
  intro pins s σ H xs us Q I r h
  obtain ⟨D, c, cv, b, rfl, hd, C, rfl, k, e, q⟩ := h
  obtain ⟨u1, u2, rfl, r1, r2⟩ := vals2 r
  cases (show u1 = Value.ref a from r1)
  have e2 := k.eq r2
  subst e2
  obtain ⟨hget, _⟩ := I.pin (a, oe) (List.mem_append.mpr (.inl List.mem_cons_self))
  obtain ⟨od, J⟩ := isx_at I hz hf hget hd
  exact PySem.W.kia_one (PySem.W.kitx_exc (xc_cls C) C.hg C.hk C.hs C.ha C.hn C.ht C.hm) I.kIn J e (fun z => nomatch z) fun tk => ⟨.bl b, H, I.kept (t' := tk) fun _ _ z => z, rfl, q⟩
theorem call_isXT {X : Cx} {a : Addr} {cls : Value} {d : Option Addr} {oe : Obj} {pn : List (Addr × Obj)} (hz : Zc cls d oe) (hf : ∃ vs, oe.data = .fields vs) : CallR (X.suite a ((a, oe) :: pn)) (.builtin "isinstance") (rIsXT X.K a cls d) := by
  intro pins s σ H xs us Q I r h
  obtain ⟨D, tp, cs, ws, b, rfl, hd, C, rfl, hT, k, e, q⟩ := h
  obtain ⟨u1, u2, rfl, r1, r2⟩ := vals2 r
  cases (show u1 = Value.ref a from r1)
  cases (show u2 = Value.ref tp from r2)
  obtain ⟨hget, _⟩ := I.pin (a, oe) (List.mem_append.mpr (.inl List.mem_cons_self))
  obtain ⟨_, its, rv, o, h1, h2, n, h3⟩ := (show ObjOk X.prog X.w H s.heap tp (.tup cs) from I.hok tp _ hT)
  have e3 := ClsV.all k rv
  subst e3
  obtain ⟨od, J⟩ := isx_at I hz hf hget hd
  obtain ⟨oc, od', dt, sl⟩ := o
  simp only at h2 h3
  subst h2 h3
  exact PySem.W.kia_tup (PySem.W.kitx_exc (xc_cls C) C.hg C.hk C.hs C.ha C.hn C.ht C.hm) I.kIn J h1 e (fun z => nomatch z) fun tk => ⟨.bl b, H, I.kept (t' := tk) fun _ _ z => z, rfl, q⟩
section
variable {K : PySem.W.Frag} {a D dd : Addr} {fs : List (Str × V)} {H : Hp} {Q : VK} {b : Bool}
theorem w_isX1 {c : V} {cv : Value} (C : ExcC K D) (hd : H dd = some (.xd fs)) (k : ClsV c cv) (e : PySem.W.kitOne K (.ref D) cv = some b) (q : Q (.bl b) H) : rIsX1 K a (.ref D) (some dd) [.ref a, c] H Q := ⟨D, c, cv, b, rfl, .inr ⟨dd, fs, rfl, hd⟩, C, rfl, k, e, q⟩
theorem w_isXT {tp : Addr} {cs : List V} {us : List Value} (C : ExcC K D) (hd : H dd = some (.xd fs)) (hT : H tp = some (.tup cs)) (k : Paired ClsV cs us) (e : PySem.W.kitAny K (.ref D) us = some b) (q : Q (.bl b) H) : rIsXT K a (.ref D) (some dd) [.ref a, .ref tp] H Q := ⟨D, tp, cs, us, b, rfl, .inr ⟨dd, fs, rfl, hd⟩, C, rfl, hT, k, e, q⟩
theorem w_xfv {C : Addr} {f : Str} {v : V} {σ : L2.St} {i : Nat} (hs : σ[i]? = some (some (.ref a))) (hd : H dd = some (.xd fs)) (hl : fs.lookup f = some v) (q : Q v H) : tXf a (.ref C) (some dd) C f (tVar i) σ H Q := ⟨_, hs, rfl, rfl, dd, fs, v, rfl, hd, hl, q⟩
end
/-- what C(v) leaves: a new dict with the one field -/
def InitEnd (C : Addr) (n : Str) (v : V) : Sp := fun vs H Q _ => ∃ a, vs = [.ref a, v] ∧ H a = some (exo a C none) ∧ ∀ dx, H dx = none → dx ≠ a → Q .non (upd (upd H dx (exd dx [(n, v)])) a (exo a C (some dx)))
section
variable {K : PySem.W.Frag} {σ : L2.St} {H : Hp} {Q : VK} {ta : TA} {D : Ends} {te t : TE} {ts : List TE} {acc : Str}
def rVeI (K : PySem.W.Frag) : List V → Hp → VK → Prop := fun vs H1 Q => ∃ (a C : Addr) (ws : List V), vs = .ref a :: ws ∧ ws.length ≤ 1000 ∧ OexC K C ∧ H1 a = some (exo a C none) ∧ Q .non H1
theorem w_veI (h : ta σ H fun vs H1 => rVeI K vs H1 Q) : tVeI K ta σ H Q := h
theorem use_veI {a C : Addr} {x : V} (T : OexC K C) (h : H a = some (exo a C none)) (q : Q .non H) : rVeI K [.ref a, x] H Q := ⟨a, C, [x], rfl, by simp, T, h, q⟩
theorem w_js {R : Str → Hp → Prop} (h : t σ H fun x H1 => ∃ y : Str, x = .str y ∧ (acc ++ y).length ≤ sizeLine ∧ tJs ts (acc ++ y) σ H1 R) : tJs (t :: ts) acc σ H R := h
theorem w_jn {R : Str → Hp → Prop} (h : R acc H) : tJs [] acc σ H R := h
theorem w_fmtI {i : Int} {j : Nat} (e : σ[j]? = some (some (.int i))) (hi : i.natAbs.log2 < 1920) (q : Q (.str (toString i)) H) : tFmtR (tVar j) σ H Q := ⟨_, e, .inr ⟨i, rfl, hi, q⟩⟩
theorem w_fmtS {y : Str} {j : Nat} (e : σ[j]? = some (some (.str y))) (hy : (reprText y).length ≤ sizeLine) (q : Q (.str (reprText y)) H) : tFmtR (tVar j) σ H Q := ⟨_, e, .inl ⟨y, rfl, hy, q⟩⟩
/-- self.f = e, the first and only one -/
theorem w_ost {f : Str} {to : TE} {a C : Addr} {y : V} {j k : Nat} (e1 : σ[k]? = some (some y)) (e2 : σ[j]? = some (some (.ref a))) (T : OexC K C) (no : PySem.W.findIn K (.ref C) f = some none) (h : H a = some (exo a C none)) (q : ∀ dx, H dx = none → dx ≠ a → D.nx σ (upd (upd H dx (exd dx [(f, y)])) a (exo a C (some dx)))) :
    tOst K f (tVar j) (tVar k) D σ H := ⟨y, e1, .ref a, e2, a, C, rfl, T, no, .inl ⟨h, q⟩⟩
theorem len_cat {x y : Str} {m n : Nat} (h1 : x.length ≤ m) (h2 : y.length ≤ n) : (x ++ y).length ≤ m + n := by
  have e : (x ++ y).length = x.length + y.length := by
    rw [TL.len_tl, TL.tl_append, List.length_append, ← TL.len_tl, ← TL.len_tl]
  omega
theorem len_int {i : Int} (h : i.natAbs < 10 ^ 60) : (Str.ofString (toString i)).length ≤ 61 := by
  by_cases hn : i < 0
  · have k := TL.numL_len (n := (0 - i).natAbs) (k := 60) (by decide) (by omega)
    have e : 0 - i = (((0 - i).natAbs : Nat) : Int) := by omega
    rw [PyProof.Rows.len_text_neg hn, e, TL.len_tl, TL.tl_num]
    omega
  · have k := TL.numL_len (n := i.natAbs) (k := 60) (by decide) h
    have e : i = ((i.natAbs : Nat) : Int) := by omega
    rw [e, TL.len_tl, TL.tl_num]
    omega
theorem log_int {i : Int} (h : i.natAbs < 10 ^ 60) : i.natAbs.log2 < 1920 := by
  have k : i.natAbs.log2 < 200 := PySem.Flt.log2_lt_of (by decide) (show i.natAbs < 2 ^ 200 by omega)
  omega
end
def rMk (C : Addr) (sp : Sp) : List V → Hp → XK → Prop := fun vs H1 Q => vs.length ≤ 1000 ∧ ∀ a, H1 a = none → sp (.ref a :: (vs ++ [])) (upd H1 a (exo a C none))
  (fun v H2 => v = .non ∧ ∃ (d : Addr) (fs : List (Str × V)), H2 a = some (exo a C (some d)) ∧ H2 d = some (exd d fs) ∧ H1 d = none ∧ Q (.ref C) (some d) (upd (del H2 a) d (.xd fs))) (fun _ _ _ => False)
theorem w_mkO {C : Addr} {sp : Sp} {ta : TA} {σ : L2.St} {H : Hp} {Q : XK} (h : ta σ H fun vs H1 => rMk C sp vs H1 Q) : tMkO C sp [] ta σ H Q := h
theorem use_mk {C : Addr} {n : Str} {v : V} {sp : Sp} {H1 : Hp} {Q : XK} (hsp : ∀ (vs : List V) (H : Hp) (Q : VK) (E : XK), InitEnd C n v vs H Q E → sp vs H Q E) (q : ∀ d, H1 d = none → Q (.ref C) (some d) (upd H1 d (.xd [(n, v)]))) : rMk C sp [v] H1 Q := by
  refine ⟨by simp, fun a ha => hsp _ _ _ _ ⟨a, rfl, upd_same, fun dx h1 h2 => ⟨rfl, dx, _, upd_same, by rw [upd_ne h2, upd_same], ?_, ?_⟩⟩⟩
  · rw [upd_ne h2] at h1
    exact h1
  · have h3 : H1 dx = none := by rw [upd_ne h2] at h1; exact h1
    have e : upd (del (upd (upd (upd H1 a (exo a C none)) dx (exd dx [(n, v)])) a (exo a C (some dx))) a) dx (.xd [(n, v)]) = upd H1 dx (.xd [(n, v)]) := by
      funext b
      by_cases hb : b = dx
      · rw [hb, upd_same, upd_same]
      · rw [upd_ne hb, upd_ne hb]
        by_cases hba : b = a
        · rw [hba, del_same, ha]
        · rw [del_ne hba, upd_ne hba, upd_ne hb, upd_ne hba]
    rw [e]
    exact q dx h3
end X2

namespace MW
open PySem
/-! words of digits, and the law's own walk over them -/
def dg (c : Nat) : Bool := decide (48 ≤ c) && decide (c ≤ 57)
def d1 (c : Nat) : Bool := decide (49 ≤ c) && decide (c ≤ 57)
def posW : List Nat → Bool
  | [] => false
  | c :: r => d1 c && r.all dg
def strip : List Nat → List Nat
  | [] => []
  | c :: r => if c = 45 then r else c :: r
def wholeW (l : List Nat) : Bool := decide (l = [48]) || posW (strip l)
def dv (l : List Nat) : Nat := NumText.digitsVal l
def vz (l : List Nat) : Int := if l.head? = some 45 then -(dv (strip l) : Int) else (dv (strip l) : Int)
def stp (s c : Nat) : Nat :=
  if s = 0 ∧ c = 45 then 1 else if s = 0 ∧ c = 48 then 2 else if (s = 0 ∨ s = 1) ∧ d1 c = true then 3 else if s = 3 ∧ dg c = true then 3
  else if (s = 2 ∨ s = 3) ∧ c = 47 then 4 else if s = 4 ∧ d1 c = true then 5 else if s = 5 ∧ dg c = true then 5 else 6
/-- '0123456789'.find(c) -/
def fnd (c : Nat) : Int := if dg c = true then (c : Int) - 48 else -1
def rd (s : Nat × Int × Int) (c : Nat) : Nat × Int × Int := (stp s.1 c, (if stp s.1 c = 3 then 10 * s.2.1 + fnd c else s.2.1), (if stp s.1 c = 5 then 10 * s.2.2 + fnd c else s.2.2))
theorem d1_dg {c : Nat} (h : d1 c = true) : dg c = true := by
  simp only [d1, dg, Bool.and_eq_true, decide_eq_true_eq] at *
  omega
theorem stp6 (c : Nat) : stp 6 c = 6 := by simp [stp]
theorem dead (r : List Nat) (t b : Int) : r.foldl rd (6, t, b) = (6, t, b) := by
  induction r with
  | nil => rfl
  | cons c r ih =>
    rw [List.foldl_cons]
    have e : rd (6, t, b) c = (6, t, b) := by simp [rd, stp6]
    rw [e, ih]
theorem stp3 {c : Nat} (h : dg c = true) : stp 3 c = 3 := by simp [stp, h]
theorem stp3n {c : Nat} (h : dg c = false) (h2 : c ≠ 47) : stp 3 c = 6 := by simp [stp, h, h2]
theorem stp5 {c : Nat} (h : dg c = true) : stp 5 c = 5 := by simp [stp, h]
theorem stp5n {c : Nat} (h : dg c = false) : stp 5 c = 6 := by simp [stp, h]
def fz (r : List Nat) (t : Int) : Int := r.foldl (fun a c => 10 * a + fnd c) t
theorem run3 (r : List Nat) (h47 : 47 ∉ r) : ∀ t b : Int, (r.all dg = true → r.foldl rd (3, t, b) = (3, fz r t, b)) ∧ (r.all dg = false → (r.foldl rd (3, t, b)).1 = 6) := by
  induction r with
  | nil => exact fun t b => ⟨fun _ => rfl, fun h => by simp at h⟩
  | cons c r ih =>
    intro t b
    have h2 : c ≠ 47 := fun e => h47 (by simp [e])
    have ih' := ih (fun z => h47 (List.mem_cons_of_mem _ z))
    rw [List.foldl_cons]
    cases hc : dg c with
    | true =>
      have e : rd (3, t, b) c = (3, 10 * t + fnd c, b) := by simp [rd, stp3 hc]
      rw [e]
      refine ⟨fun h => ?_, fun h => ?_⟩
      · rw [List.all_cons, hc, Bool.true_and] at h
        exact (ih' _ _).1 h
      · rw [List.all_cons, hc, Bool.true_and] at h
        exact (ih' _ _).2 h
    | false =>
      have e : rd (3, t, b) c = (6, t, b) := by simp [rd, stp3n hc h2]
      rw [e, dead]
      exact ⟨fun h => by simp [hc] at h, fun _ => rfl⟩
theorem run5 (r : List Nat) : ∀ t b : Int, (r.all dg = true → r.foldl rd (5, t, b) = (5, t, fz r b)) ∧ (r.all dg = false → (r.foldl rd (5, t, b)).1 = 6) := by
  induction r with
  | nil => exact fun t b => ⟨fun _ => rfl, fun h => by simp at h⟩
  | cons c r ih =>
    intro t b
    rw [List.foldl_cons]
    cases hc : dg c with
    | true =>
      have e : rd (5, t, b) c = (5, t, 10 * b + fnd c) := by simp [rd, stp5 hc]
      rw [e]
      refine ⟨fun h => ?_, fun h => ?_⟩
      · rw [List.all_cons, hc, Bool.true_and] at h
        exact (ih _ _).1 h
      · rw [List.all_cons, hc, Bool.true_and] at h
        exact (ih _ _).2 h
    | false =>
      have e : rd (5, t, b) c = (6, t, b) := by simp [rd, stp5n hc]
      rw [e, dead]
      exact ⟨fun h => by simp [hc] at h, fun _ => rfl⟩
theorem all_digits {r : List Nat} (h : r.all dg = true) : NumText.AllDigits r := fun c hc => by
  have := List.all_eq_true.mp h c hc
  simp only [dg, Bool.and_eq_true, decide_eq_true_eq] at this
  exact this
theorem fz_dv : ∀ (r : List Nat) (n : Nat), r.all dg = true → fz r (n : Int) = ((r.foldl (fun acc c => acc * 10 + (c - 48)) n : Nat) : Int)
  | [], _, _ => rfl
  | c :: r, n, h => by
    rw [List.all_cons, Bool.and_eq_true] at h
    have hc : 48 ≤ c ∧ c ≤ 57 := by
      have := h.1
      simp only [dg, Bool.and_eq_true, decide_eq_true_eq] at this
      exact this
    unfold fz
    rw [List.foldl_cons, List.foldl_cons, ← fz_dv r _ h.2]
    have e : 10 * (n : Int) + fnd c = ((n * 10 + (c - 48) : Nat) : Int) := by
      unfold fnd
      rw [if_pos h.1]
      omega
    rw [e]
    rfl
theorem fz_cons {c : Nat} {r : List Nat} (h : (c :: r).all dg = true) : fz r (10 * 0 + fnd c) = (dv (c :: r) : Int) := by
  have e := fz_dv (c :: r) 0 h
  unfold fz at e
  rw [List.foldl_cons] at e
  exact e
theorem pos_all {l : List Nat} (h : posW l = true) : l.all dg = true ∧ l ≠ [] := by
  cases l with
  | nil => simp [posW] at h
  | cons c r =>
    simp only [posW, Bool.and_eq_true] at h
    exact ⟨by simp only [List.all_cons, d1_dg h.1, h.2, Bool.and_self], by simp⟩
/-- what the walk says of a list without a slash -/
def Ra (a : List Nat) (s : Nat × Int × Int) : Prop := s.2.2 = 0 ∧ (s.1 = 0 ∨ s.1 = 1 ∨ s.1 = 2 ∨ s.1 = 3 ∨ s.1 = 6) ∧ ((s.1 = 2 ∨ s.1 = 3) ↔ wholeW a = true) ∧ (wholeW a = true → s.2.1 = (dv (strip a) : Int))
theorem rd0 {c : Nat} {s : Nat} (h : stp s c ≠ 3) (h5 : stp s c ≠ 5) (t b : Int) : rd (s, t, b) c = (stp s c, t, b) := by simp [rd, h, h5]
theorem posW_45 (r : List Nat) : posW (45 :: r) = false := by simp [posW, d1]
theorem posW_48 (r : List Nat) : posW (48 :: r) = false := by simp [posW, d1]
theorem strip_45 (r : List Nat) : strip (45 :: r) = r := rfl
theorem strip_ot {c : Nat} (r : List Nat) (h : c ≠ 45) : strip (c :: r) = c :: r := by
  show (if c = 45 then r else c :: r) = _
  rw [if_neg h]
theorem whole_48 (r : List Nat) : wholeW (48 :: r) = decide (r = []) := by
  unfold wholeW
  rw [strip_ot r (by decide), posW_48, Bool.or_false]
  simp
theorem whole_45 (r : List Nat) : wholeW (45 :: r) = posW r := by
  unfold wholeW
  rw [strip_45]
  simp
theorem whole_ot {c : Nat} (r : List Nat) (h : c ≠ 45) (h2 : c ≠ 48) : wholeW (c :: r) = posW (c :: r) := by
  unfold wholeW
  rw [strip_ot r h]
  simp [h2]
theorem run2 (r : List Nat) (h47 : 47 ∉ r) (t b : Int) : r.foldl rd (2, t, b) = if r = [] then (2, t, b) else (6, t, b) := by
  cases r with
  | nil => rfl
  | cons c r =>
    have h2 : c ≠ 47 := fun e => h47 (by simp [e])
    have e : stp 2 c = 6 := by simp [stp, h2]
    rw [List.foldl_cons, rd0 (by rw [e]; decide) (by rw [e]; decide), e, dead, if_neg (by simp)]
theorem run_pos {c s : Nat} {r : List Nat} (hs : s = 0 ∨ s = 1) (h45 : s = 0 → c ≠ 45 ∧ c ≠ 48) (h47 : 47 ∉ c :: r) :
    (posW (c :: r) = true → (c :: r).foldl rd (s, 0, 0) = (3, (dv (c :: r) : Int), 0)) ∧ (posW (c :: r) = false → ((c :: r).foldl rd (s, 0, 0)).1 = 6 ∧ ((c :: r).foldl rd (s, 0, 0)).2.2 = 0) := by
  have h2 : c ≠ 47 := fun e => h47 (by simp [e])
  have hr : 47 ∉ r := fun z => h47 (List.mem_cons_of_mem _ z)
  cases hc : d1 c with
  | true =>
    have e : stp s c = 3 := by
      rcases hs with rfl | rfl
      · simp [stp, hc, (h45 rfl).1, (h45 rfl).2]
      · simp [stp, hc]
    have e2 : rd (s, 0, 0) c = (3, 10 * 0 + fnd c, 0) := by simp [rd, e]
    rw [List.foldl_cons, e2]
    cases ha : r.all dg with
    | true =>
      rw [(run3 r hr _ _).1 ha, fz_cons (by rw [List.all_cons, d1_dg hc, ha] <;> rfl)]
      exact ⟨fun _ => rfl, fun h => by simp [posW, hc, ha] at h⟩
    | false =>
      refine ⟨fun h => by simp [posW, hc, ha] at h, fun _ => ⟨(run3 r hr _ _).2 ha, ?_⟩⟩
      have key : ∀ (r : List Nat), 47 ∉ r → ∀ t : Int, (r.foldl rd (3, t, 0)).2.2 = 0 := by
        intro r
        induction r with
        | nil => exact fun _ t => rfl
        | cons c r ih =>
          intro h t
          have h2 : c ≠ 47 := fun e => h (by simp [e])
          rw [List.foldl_cons]
          cases hc : dg c with
          | true =>
            have e : rd (3, t, 0) c = (3, 10 * t + fnd c, 0) := by simp [rd, stp3 hc]
            rw [e]
            exact ih (fun z => h (List.mem_cons_of_mem _ z)) _
          | false =>
            have e : rd (3, t, 0) c = (6, t, 0) := by simp [rd, stp3n hc h2]
            rw [e, dead]
      exact key r hr _
  | false =>
    have e : stp s c = 6 := by
      rcases hs with rfl | rfl
      · simp [stp, hc, (h45 rfl).1, (h45 rfl).2]
      · simp [stp, hc]
    rw [List.foldl_cons, rd0 (by rw [e]; decide) (by rw [e]; decide), e, dead]
    exact ⟨fun h => by simp [posW, hc] at h, fun _ => ⟨rfl, rfl⟩⟩
theorem runA (a : List Nat) (h47 : 47 ∉ a) : Ra a (a.foldl rd (0, 0, 0)) := by
  cases a with
  | nil => exact ⟨rfl, .inl rfl, by simp [wholeW, strip, posW], by simp [wholeW, strip, posW]⟩
  | cons c r =>
    have hr : 47 ∉ r := fun z => h47 (List.mem_cons_of_mem _ z)
    by_cases h45 : c = 45
    · subst h45
      have e : stp 0 45 = 1 := by decide
      rw [List.foldl_cons, rd0 (by rw [e]; decide) (by rw [e]; decide), e]
      unfold Ra
      rw [whole_45]
      have es : strip (45 :: r) = r := strip_45 r
      rw [es]
      cases r with
      | nil => exact ⟨rfl, .inr (.inl rfl), by simp [posW], by simp [posW]⟩
      | cons d r =>
        have k := run_pos (c := d) (s := 1) (r := r) (.inr rfl) (fun z => by cases z) hr
        cases hp : posW (d :: r) with
        | true =>
          rw [k.1 hp]
          exact ⟨rfl, .inr (.inr (.inr (.inl rfl))), by simp, fun _ => rfl⟩
        | false =>
          obtain ⟨k1, k2⟩ := k.2 hp
          exact ⟨k2, .inr (.inr (.inr (.inr k1))), by rw [k1]; simp, by simp⟩
    · by_cases h48 : c = 48
      · subst h48
        have e : stp 0 48 = 2 := by decide
        rw [List.foldl_cons, rd0 (by rw [e]; decide) (by rw [e]; decide), e, run2 r hr]
        unfold Ra
        rw [whole_48]
        by_cases hn : r = []
        · subst hn
          exact ⟨rfl, .inr (.inr (.inl rfl)), by simp, fun _ => by decide⟩
        · rw [if_neg hn]
          exact ⟨rfl, .inr (.inr (.inr (.inr rfl))), by simp [hn], by simp [hn]⟩
      · have k := run_pos (c := c) (s := 0) (r := r) (.inl rfl) (fun _ => ⟨h45, h48⟩) h47
        unfold Ra
        rw [whole_ot r h45 h48]
        have es : strip (c :: r) = c :: r := strip_ot r h45
        rw [es]
        cases hp : posW (c :: r) with
        | true =>
          rw [k.1 hp]
          exact ⟨rfl, .inr (.inr (.inr (.inl rfl))), by simp, fun _ => rfl⟩
        | false =>
          obtain ⟨k1, k2⟩ := k.2 hp
          exact ⟨k2, .inr (.inr (.inr (.inr k1))), by rw [k1]; simp, by simp⟩
/-- behind a slash -/
theorem runB (b : List Nat) (t : Int) : (posW b = true → b.foldl rd (4, t, 0) = (5, t, (dv b : Int))) ∧ (posW b = false → (b.foldl rd (4, t, 0)).1 = 4 ∨ (b.foldl rd (4, t, 0)).1 = 6) := by
  cases b with
  | nil => exact ⟨fun h => by simp [posW] at h, fun _ => .inl rfl⟩
  | cons c r =>
    cases hc : d1 c with
    | true =>
      have e : stp 4 c = 5 := by simp [stp, hc]
      have e2 : rd (4, t, 0) c = (5, t, 10 * 0 + fnd c) := by simp [rd, e]
      rw [List.foldl_cons, e2]
      cases ha : r.all dg with
      | true =>
        rw [(run5 r _ _).1 ha, fz_cons (by rw [List.all_cons, d1_dg hc, ha] <;> rfl)]
        exact ⟨fun _ => rfl, fun h => by simp [posW, hc, ha] at h⟩
      | false => exact ⟨fun h => by simp [posW, hc, ha] at h, fun _ => .inr ((run5 r _ _).2 ha)⟩
    | false =>
      have e : stp 4 c = 6 := by simp [stp, hc]
      rw [List.foldl_cons, rd0 (by rw [e]; decide) (by rw [e]; decide), e, dead]
      exact ⟨fun h => by simp [posW, hc] at h, fun _ => .inr rfl⟩
theorem split47 : ∀ l : List Nat, 47 ∉ l ∨ ∃ a b, l = a ++ 47 :: b ∧ 47 ∉ a
  | [] => .inl (by simp)
  | c :: r => by
    by_cases h : c = 47
    · exact .inr ⟨[], r, by simp [h], by simp⟩
    · rcases split47 r with k | ⟨a, b, rfl, k⟩
      · exact .inl (by simp; exact ⟨fun e => h e.symm, k⟩)
      · exact .inr ⟨c :: a, b, rfl, by simp; exact ⟨fun e => h e.symm, k⟩⟩
theorem whole_free {l : List Nat} (h : wholeW l = true) : 47 ∉ l := by
  intro hm
  cases l with
  | nil => simp at hm
  | cons c r =>
    have key : ∀ m : List Nat, posW m = true → 47 ∉ m := fun m hp z => by
      have := all_digits (pos_all hp).1 47 z
      omega
    by_cases h45 : c = 45
    · subst h45
      rw [whole_45] at h
      rcases List.mem_cons.mp hm with e | z
      · omega
      · exact key r h z
    · by_cases h48 : c = 48
      · subst h48
        rw [whole_48] at h
        simp at h
        subst h
        simp at hm
      · rw [whole_ot r h45 h48] at h
        exact key _ h hm
/-- the walk's end -/
inductive End (l : List Nat) : Nat × Int × Int → Prop where
  | flat (s : Nat × Int × Int) (h : 47 ∉ l) (h5 : s.1 ≠ 5) (hw : (s.1 = 2 ∨ s.1 = 3) ↔ wholeW l = true) : End l s
  | good (a b : List Nat) (e : l = a ++ 47 :: b) (h : 47 ∉ a) (ha : wholeW a = true) (hb : posW b = true) : End l (5, (dv (strip a) : Int), (dv b : Int))
  | bad (s : Nat × Int × Int) (a b : List Nat) (e : l = a ++ 47 :: b) (h : 47 ∉ a) (hn : (wholeW a && posW b) = false) (h5 : s.1 ≠ 5 ∧ s.1 ≠ 2 ∧ s.1 ≠ 3) : End l s
theorem run_end (l : List Nat) : End l (l.foldl rd (0, 0, 0)) := by
  rcases split47 l with h | ⟨a, b, rfl, h⟩
  · obtain ⟨h1, h2, h3, h4⟩ := runA l h
    exact .flat _ h (by omega) h3
  · have ka := runA a h
    have hs : ∃ s t z, a.foldl rd (0, 0, 0) = (s, t, z) := ⟨_, _, _, rfl⟩
    obtain ⟨s, t, z, es⟩ := hs
    have kb : (a ++ 47 :: b).foldl rd (0, 0, 0) = b.foldl rd (rd (s, t, z) 47) := by rw [List.foldl_append, List.foldl_cons, es]
    rw [es] at ka
    obtain ⟨h1, h2, h3, h4⟩ := ka
    dsimp only at h1 h2 h3 h4
    subst h1
    by_cases hw : s = 2 ∨ s = 3
    · have e4 : stp s 47 = 4 := by rcases hw with rfl | rfl <;> decide
      have e5 : rd (s, t, 0) 47 = (4, t, 0) := by rw [rd0 (by rw [e4]; decide) (by rw [e4]; decide), e4]
      have ha := h3.mp hw
      rw [kb, e5]
      cases hp : posW b with
      | true =>
        rw [(runB b t).1 hp, h4 ha]
        exact .good a b rfl h ha hp
      | false => exact .bad _ a b rfl h (by rw [hp, Bool.and_false]) (by rcases (runB b t).2 hp with e | e <;> rw [e] <;> decide)
    · have e4 : stp s 47 = 6 := by rcases h2 with rfl | rfl | rfl | rfl | rfl <;> first | decide | exact absurd (by simp) hw
      have e5 : rd (s, t, 0) 47 = (6, t, 0) := by rw [rd0 (by rw [e4]; decide) (by rw [e4]; decide), e4]
      rw [kb, e5, dead]
      exact .bad _ a b rfl h (by rw [Bool.and_eq_false_iff]; exact .inl (Bool.eq_false_iff.mpr fun z => hw (h3.mpr z))) ⟨by simp, by simp, by simp⟩
theorem dv_zero (l : List Nat) : dv (48 :: l) = dv l := rfl
theorem dv_pos {l : List Nat} (h : posW l = true) : 0 < dv l := by
  cases l with
  | nil => simp [posW] at h
  | cons c r =>
    simp only [posW, Bool.and_eq_true, d1, decide_eq_true_eq] at h
    have key : ∀ (r : List Nat) (n : Nat), 0 < n → 0 < r.foldl (fun acc c => acc * 10 + (c - 48)) n := by
      intro r
      induction r with
      | nil => exact fun n h => h
      | cons d r ih => exact fun n h => ih (n * 10 + (d - 48)) (by omega)
    show 0 < r.foldl (fun acc c => acc * 10 + (c - 48)) (0 * 10 + (c - 48))
    exact key r _ (by omega)
theorem dv_lt : ∀ (l : List Nat), l.all dg = true → dv l < 10 ^ l.length := by
  have key : ∀ (r : List Nat) (n k : Nat), r.all dg = true → n < 10 ^ k → r.foldl (fun acc c => acc * 10 + (c - 48)) n < 10 ^ (k + r.length) := by
    intro r
    induction r with
    | nil => exact fun n k _ h => h
    | cons c r ih =>
      intro n k h hn
      rw [List.all_cons, Bool.and_eq_true] at h
      have hc : c ≤ 57 := by
        have := h.1
        simp only [dg, Bool.and_eq_true, decide_eq_true_eq] at this
        omega
      have := ih (n * 10 + (c - 48)) (k + 1) h.2 (by rw [Nat.pow_succ]; omega)
      rw [List.foldl_cons, List.length_cons, show k + (r.length + 1) = k + 1 + r.length by omega]
      exact this
  intro l h
  have := key l 0 0 h (by decide)
  rw [Nat.zero_add] at this
  exact this
end MW

namespace MT
open PySem PySem.Spec PyProof.Rows L2 MW
open SX (S S_len S_cat S_inj slice_to slice_from num_S)
/-! texts as lists of codes -/
theorem vS_eq {l m : List Nat} : (V.str (S l) = V.str (S m)) ↔ l = m := ⟨fun h => S_inj (V.str.inj h), fun h => by rw [h]⟩
section
variable {A B : Prop} {l m : List Nat} {z : Str}
theorem w_iteS (m : List Nat) (e : z = S m) (h1 : l = m → A) (h2 : l ≠ m → B) : if decide (V.str (S l) = V.str z) = true then A else B := by
  subst e
  by_cases h : l = m
  · rw [if_pos (decide_eq_true (vS_eq.mpr h))]; exact h1 h
  · rw [if_neg (fun k => h (vS_eq.mp (of_decide_eq_true k)))]; exact h2 h
theorem w_iteSN (m : List Nat) (e : z = S m) (h1 : l ≠ m → A) (h2 : l = m → B) : if (!decide (V.str (S l) = V.str z)) = true then A else B := by
  subst e
  by_cases h : l = m
  · rw [decide_eq_true (vS_eq.mpr h)]; exact h2 h
  · rw [decide_eq_false (fun k => h (vS_eq.mp k))]; exact h1 h
end
theorem ascii_S (l : List Nat) : Txt.isascii (S l) = l.all (· < 128) := by
  unfold Txt.isascii S
  simp
theorem starts1 (l : List Nat) (c : Nat) : Txt.startswith (S l) (S [c]) = decide (l.head? = some c) := by
  cases l with
  | nil => simp [Txt.startswith, S, Str.length]
  | cons d r =>
    simp only [Txt.startswith, S_len, List.length_cons, List.length_nil]
    have e : ∀ z : Nat, (⟨#[z]⟩ : Str).length = 1 := fun _ => rfl
    by_cases h : d = c
    · subst h
      simp [Builtin.Str.subAt, S, e]
    · simp [Builtin.Str.subAt, S, h, e]
theorem digit_S (l : List Nat) (h : l.all (· < 128) = true) : Txt.isdigit (S l) = (!l.isEmpty && l.all dg) := by
  have e : ∀ l : List Nat, l.all (· < 128) = true → l.all Unicode.isDigit = l.all dg := by
    intro l
    induction l with
    | nil => exact fun _ => rfl
    | cons c r ih =>
      intro h
      rw [List.all_cons, Bool.and_eq_true] at h
      have k := cls_isdigit c (of_decide_eq_true h.1)
      rw [List.all_cons, List.all_cons, ih h.2, k]
      congr 1
      have k3 : ∀ c, c < 128 → inR 48 57 ⟨#[c]⟩ = dg c := by decide +kernel
      exact k3 c (of_decide_eq_true h.1)
  unfold Txt.isdigit
  rw [S_len]
  have e2 : (S l).cps.all Unicode.isDigit = l.all Unicode.isDigit := by simp [S]
  rw [e2, e l h]
  cases l <;> simp
theorem pos_txt (l : List Nat) : posW l = (Txt.isascii (S l) && (Txt.isdigit (S l) && !Txt.startswith (S l) (S [48]))) := by
  rw [ascii_S]
  cases h : l.all (· < 128) with
  | true =>
    rw [digit_S l h, starts1, Bool.true_and]
    cases l with
    | nil => rfl
    | cons c r =>
      simp only [posW, List.isEmpty_cons, Bool.not_false, Bool.true_and, List.all_cons, List.head?_cons, Option.some.injEq, d1, dg]
      cases r.all dg with
      | false => simp
      | true =>
        simp only [Bool.and_true]
        by_cases h1 : 49 ≤ c
        · by_cases h2 : c ≤ 57
          · simp [h1, h2, show 48 ≤ c by omega, show c ≠ 48 by omega]
          · simp [h1, h2]
        · by_cases h2 : c = 48
          · simp [h2]
          · simp [h1, show ¬ 48 ≤ c by omega]
  | false =>
    rw [Bool.false_and]
    cases l with
    | nil => simp at h
    | cons c r =>
      refine Bool.eq_false_iff.mpr fun k => ?_
      have := (pos_all k).1
      have k2 : (c :: r).all (· < 128) = true := List.all_eq_true.mpr fun d hd => by
        have := all_digits this d hd
        exact decide_eq_true (by omega)
      rw [k2] at h
      cases h
theorem cut_to {l : List Nat} {i : Int} (h : 0 ≤ i) : cutS (S l) none (some i) = S (l.take i.toNat) := by rw [C8.cutS_slice, slice_to h]
theorem cut_from {l : List Nat} {i : Int} (h : 0 ≤ i) : cutS (S l) (some i) none = S (l.drop i.toNat) := by rw [C8.cutS_slice, slice_from h]
theorem rp_S (l : List Nat) : Txt.removeprefix (S l) (S [45]) = S (strip l) := by
  rw [StrLaws.removeprefix_eq]
  have e := starts1 l 45
  unfold Txt.startswith at e
  cases l with
  | nil => rfl
  | cons c r =>
    by_cases h : c = 45
    · subst h
      rw [if_pos (by rw [e]; simp), strip_45]
      simp [S, Str.length]
    · rw [if_neg (by rw [e]; simp [h]), strip_ot r h]
theorem find_dg {c : Nat} (h : dg c = true) : Txt.find (S [48, 49, 50, 51, 52, 53, 54, 55, 56, 57]) (S [c]) = fnd c := by
  have hc : 48 ≤ c ∧ c ≤ 57 := by simpa [dg] using h
  have : c = 48 ∨ c = 49 ∨ c = 50 ∨ c = 51 ∨ c = 52 ∨ c = 53 ∨ c = 54 ∨ c = 55 ∨ c = 56 ∨ c = 57 := by omega
  rcases this with e | e | e | e | e | e | e | e | e | e <;> subst e <;> decide +kernel
/-- the text of a whole number -/
def nz (i : Int) : List Nat := if i < 0 then 45 :: TL.numL i.natAbs else TL.numL i.natAbs
theorem S_nz (i : Int) : Str.ofString (toString i) = S (nz i) := by
  unfold nz
  by_cases h : i < 0
  · rw [if_pos h]
    refine TL.ext_tl ?_
    have e : toString i = "-" ++ toString ((i.natAbs : Nat) : Int) := by
      rw [PyProof.Rows.toString_neg h]
      congr 2
      omega
    rw [e, TL.tl_ofString, String.toList_append, List.map_append]
    have e2 := TL.tl_num i.natAbs
    rw [TL.tl_ofString] at e2
    rw [e2]
    rfl
  · rw [if_neg h]
    have e : i = ((i.natAbs : Nat) : Int) := by omega
    exact (congrArg (fun x : Int => Str.ofString (toString x)) e).trans (num_S i.natAbs)
theorem posW_snoc {l : List Nat} {c : Nat} (h : posW l = true) (hc : dg c = true) : posW (l ++ [c]) = true := by
  cases l with
  | nil => simp [posW] at h
  | cons d r =>
    simp only [posW, Bool.and_eq_true, List.cons_append, List.all_append, List.all_cons, List.all_nil] at *
    exact ⟨h.1, h.2, hc, trivial⟩
theorem numL_posW : ∀ n : Nat, 0 < n → posW (TL.numL n) = true := by
  intro n
  induction n using Nat.strongRecOn with
  | _ n ih =>
    intro h
    by_cases h10 : n < 10
    · rw [TL.numL_lt h10]
      simp [posW, d1]
      omega
    · rw [TL.numL_step (by omega)]
      exact posW_snoc (ih (n / 10) (by omega) (by omega)) (by simp [dg]; omega)
theorem dv_num (n : Nat) : dv (TL.numL n) = n := TL.numL_val n
theorem head_num (n : Nat) : (TL.numL n).head? ≠ some 45 := by
  intro h
  have hm : 45 ∈ TL.numL n := List.mem_of_mem_head? h
  have := TL.numL_digits n 45 hm
  omega
theorem strip_num (n : Nat) : strip (TL.numL n) = TL.numL n := by
  have k := head_num n
  cases h : TL.numL n with
  | nil => rfl
  | cons c r =>
    rw [h] at k
    exact strip_ot r (by simpa using k)
theorem nz_whole (i : Int) : wholeW (nz i) = true := by
  unfold nz
  by_cases h : i < 0
  · rw [if_pos h, whole_45]
    exact numL_posW _ (by omega)
  · rw [if_neg h]
    by_cases h0 : i.natAbs = 0
    · rw [h0]
      decide
    · unfold wholeW
      rw [strip_num, numL_posW _ (by omega), Bool.or_true]
theorem nz_val (i : Int) : vz (nz i) = i := by
  unfold vz nz
  by_cases h : i < 0
  · rw [if_pos h, if_pos (by simp), strip_45, dv_num]
    omega
  · rw [if_neg h, if_neg (head_num _), strip_num, dv_num]
    omega
theorem numL_nz {n : Nat} : nz (n : Int) = TL.numL n := by
  unfold nz
  rw [if_neg (by omega)]
  simp
section
variable {σ : L2.St} {H : Hp} {Q : VK} {to te : TE} {r : V → List V → Hp → VK → Prop}
theorem w_m0 (h : to σ H fun x H1 => (∃ a, x = .str a) ∧ r x [] H1 Q) : tM0 r to σ H Q := h
theorem w_m1 (h : to σ H fun x H1 => (∃ a, x = .str a) ∧ te σ H1 fun y H2 => r x [y] H2 Q) : tM1 r to te σ H Q := h
theorem w_slice {r : V → Option Int → Option Int → Hp → VK → Prop} {te : TE} {tl th : TO} (h : te σ H fun x H1 => tl σ H1 fun l H2 => th σ H2 fun u H3 => r x l u H3 Q) : L2.tSl r te tl th σ H Q := h
theorem w_nopart {R : Option Int → Hp → Prop} (h : R none H) : tNoPart σ H R := h
theorem w_part {t : TE} {R : Option Int → Hp → Prop} (h : t σ H fun x H1 => ∃ i, x = .int i ∧ R (some i) H1) : tPart t σ H R := h
theorem w_cut {l : List Nat} {lo hi : Option Int} (hl : l.length ≤ 100000) (q : Q (.str (cutS (S l) lo hi)) H) : rSlS (.str (S l)) lo hi H Q := ⟨_, rfl, by rw [S_len]; exact Nat.le_trans hl (by decide), q⟩
theorem w_cutTo {l : List Nat} {i : Int} (hl : l.length ≤ 100000) (hi : 0 ≤ i) (q : Q (.str (S (l.take i.toNat))) H) : rSlS (.str (S l)) none (some i) H Q := w_cut hl (by rw [cut_to hi]; exact q)
theorem w_cutFrom {l : List Nat} {i : Int} (hl : l.length ≤ 100000) (hi : 0 ≤ i) (q : Q (.str (S (l.drop i.toNat))) H) : rSlS (.str (S l)) (some i) none H Q := w_cut hl (by rw [cut_from hi]; exact q)
def rAddS : R2 := fun x y H Q => ∃ i j, x = .str i ∧ y = .str j ∧ i.length + j.length ≤ sizeLine ∧ Q (.str (i ++ j)) H
theorem op_addS {X : Cx} : OpR X (binaryOp .Add) rAddS := op_add_str
theorem w_addS {l m : List Nat} (hl : l.length + m.length ≤ 100000) (q : Q (.str (S (l ++ m))) H) : rAddS (.str (S l)) (.str (S m)) H Q := ⟨_, _, rfl, rfl, by rw [S_len, S_len]; exact Nat.le_trans hl (by decide), by rw [S_cat]; exact q⟩
theorem w_ixS {l : List Nat} {k : Int} {c : Nat} (hl : l.length ≤ 100000) (a : atI l k = some c) (q : Q (.str (S [c])) H) : rIxS (.str (S l)) (.int k) H Q := ⟨_, _, c, rfl, rfl, by rw [S_len]; exact Nat.le_trans hl (by decide), a, q⟩
theorem pickN {l : List Nat} {k : Int} (h0 : 0 ≤ k) (h : k < l.length) : ∃ c, atI l k = some c ∧ c ∈ l := by
  obtain ⟨j, rfl⟩ := Int.eq_ofNat_of_zero_le h0
  have hj : j < l.length := by omega
  exact ⟨l[j], atI_nat (j := j) (List.getElem?_eq_getElem hj), List.getElem_mem hj⟩
def rInS : R2 := fun x y H Q => ∃ (c : Nat) (z : Str), x = .str ⟨#[c]⟩ ∧ y = .str z ∧ Q (.bl (decide (c ∈ z.cps.toList))) H
def rNotInS : R2 := fun x y H Q => ∃ (c : Nat) (z : Str), x = .str ⟨#[c]⟩ ∧ y = .str z ∧ Q (.bl (!decide (c ∈ z.cps.toList))) H
theorem op_inS {X : Cx} : OpR X (compareOp .In) rInS := op_in_sign
theorem op_notInS {X : Cx} : OpR X (compareOp .NotIn) rNotInS := op_notIn_sign
theorem w_in1 {c : Nat} {m : List Nat} (q : Q (.bl (decide (c ∈ m))) H) : rInS (.str (S [c])) (.str (S m)) H Q := ⟨c, _, rfl, rfl, q⟩
theorem w_notin1 {c : Nat} {m : List Nat} (q : Q (.bl (!decide (c ∈ m))) H) : rNotInS (.str (S [c])) (.str (S m)) H Q := ⟨c, _, rfl, rfl, q⟩
theorem w_chain {r r' : R2} {ta tb tc : TE} (h : ta σ H fun x H1 => tb σ H1 fun y H2 => r x y H2 fun z H3 => ∃ k, z = .bl k ∧ (if k = true then tc σ H3 fun w' H4 => r' y w' H4 Q else Q (.bl false) H3)) : tChain r r' ta tb tc σ H Q := h
theorem w_rng3 {tl : TA} {R : It → Hp → Prop} (h : tl σ H fun vs H1 => ∃ (i j c : Int) (n : Nat), vs = [.int i, .int j, .int c] ∧ RgC i j c n ∧ R (Itc i c n) H1) : iRng3 tl σ H R := h
def rLenS : List V → Hp → VK → Prop := fun xs H Q => ∃ z : Str, xs = [.str z] ∧ z.length ≤ sizeLine ∧ Q (.int z.length) H
theorem call_lenS {X : Cx} : CallR X (.builtin "len") rLenS := call_len_str
theorem w_lenS {l : List Nat} (hl : l.length ≤ 100000) (q : Q (.int l.length) H) : rLenS [.str (S l)] H Q := ⟨_, rfl, by rw [S_len]; exact Nat.le_trans hl (by decide), by rw [S_len]; exact q⟩
theorem rg0 {n : Nat} (h : n < 64) : RgC (n : Int) (n : Int) 64 0 := by
  have k : ∀ n : Nat, n < 64 → Builtin.Range.small (n : Int) (n : Int) 64 = true := by decide +kernel
  exact ⟨by decide, by decide, k n h, by simp [Builtin.Range.rangeSize]⟩
theorem pe_strS {X : Cx} {z : Str} {l : List Nat} {j : Nat} {pos : Pos} (e : z = S l) : PE X (.Constant (.str z) j pos) (tC (.str (S l))) := by
  subst e
  exact pe_str
end
end MT

namespace MT
open PySem PySem.Spec PyProof.Rows L2
open _root_.SX (S)
section
variable {H : Hp} {Q : VK} {l m : List Nat}
theorem w_rEqS (q : Q (.bl (decide (l = m))) H) : rEq (.str (S l)) (.str (S m)) H Q := ⟨rfl, by
  have e : decide (V.str (S l) = V.str (S m)) = decide (l = m) := by
    by_cases h : l = m
    · rw [decide_eq_true h, decide_eq_true (vS_eq.mpr h)]
    · rw [decide_eq_false h, decide_eq_false (fun k => h (vS_eq.mp k))]
  rw [e]
  exact q⟩
theorem w_rNeS (q : Q (.bl (!decide (l = m))) H) : rNe (.str (S l)) (.str (S m)) H Q := ⟨rfl, by
  have e : decide (V.str (S l) = V.str (S m)) = decide (l = m) := by
    by_cases h : l = m
    · rw [decide_eq_true h, decide_eq_true (vS_eq.mpr h)]
    · rw [decide_eq_false h, decide_eq_false (fun k => h (vS_eq.mp k))]
  rw [e]
  exact q⟩
theorem leafN {a b : Nat} (h : a = b) (hq : Q (.int (a : Nat)) H) : Q (.int (b : Nat)) H := h ▸ hq
end
end MT

namespace NM
open PySem PySem.Spec PyProof.Rows L2 MW CwR
open SX (S S_len S_cat S_inj)
/-! names: text[:1].isalpha() and text.replace('_', 'a').isalnum() -/
section
variable {X : Cx}
/-- behind it a token is out -/
def PEu (X : Cx) (e : Expr) (t : TE) : Prop :=
  ∀ (pins : List (Addr × Obj)) (s : Shared) (σ : L2.St) (H : Hp) (Q : VK), Inv X pins σ H s → t σ H Q → wpAny (model X.prog X.w) X.A (eval e X.env) (fun v s1 => 1 ≤ s1.toks ∧ EP X pins σ Q v s1) X.xe s
variable {e o a b : Expr} {te to ta tb : TE} {rest : List Expr} {pos apos p2 : Pos}
theorem peu_sliceTo {i : Int} {j : Nat} {cp : Pos} {r : V → Option Int → Option Int → Hp → VK → Prop} (hr : SlR X r) (he : PE X e te) :
    PEu X (.Subscript e (.Slice none (some (.Constant (.int i) j cp)) none p2) pos) (L2.tSl r te tNoPart (tPart (tC (.int i)))) := by
  intro pins s σ H Q I h
  refine Subscript_ (thn (he.run pins s σ H _ I h) fun v s1 ⟨x, H1, I1, r1, q1⟩ => ?_)
  refine wpAny_Slice (thn (po_none.run pins s1 σ H1 _ I1 q1) fun vl s2 ⟨l, H2, I2, pl, q2⟩ => ?_)
  rw [evalPart_some]
  refine wpAny_Constant_int ?_
  rw [evalPart_none]
  refine wpAny_pure ?_
  obtain ⟨k, ek, q3⟩ := q2
  cases ek
  have I3 : Inv X pins σ H2 { s2 with toks := s2.toks + 1 } := I2.tok _
  have I4 : Inv X pins σ H2 { s2 with heap := s2.heap.push { cls := .type "slice", data := .fields #[vl, .int i s2.toks, .none] }, toks := s2.toks + 1 } := I2.kept (t' := s2.toks + 1) fun b ob q => Heap.get?_push_of_some _ q
  obtain ⟨T, id, hT, ht, hg⟩ := hr pins { s2 with heap := s2.heap.push { cls := .type "slice", data := .fields #[vl, .int i s2.toks, .none] }, toks := s2.toks + 1 } σ H2 x v vl (.int i s2.toks) l (some i) s2.heap.objs.size Q I4 r1 (Heap.IsSliceOf.new ..) pl (.int i s2.toks) q3
  show wpAny (model X.prog X.w) X.A (subscriptTail e (.Slice none (some (.Constant (.int i) j cp)) none p2) v (.ref s2.heap.objs.size)) _ X.xe { s2 with heap := s2.heap.push { cls := .type "slice", data := .fields #[vl, .int i s2.toks, .none] }, toks := s2.toks + 1 }
  refine wpAny_mono (PySem.wpAny_toks (tail_any (ops := [.ref s2.heap.objs.size, v]) ht hT hg (by with_unfolding_all rfl))) (fun v5 s5 q5 => ⟨?_, q5.2⟩) fun _ _ z => z.2
  have := q5.1
  exact Nat.le_trans (Nat.succ_le_succ (Nat.zero_le _)) this
theorem peu_m0 {id : String} {name : Str} {r : V → List V → Hp → VK → Prop} (slot : Slot "str" name id) (ty : typeOf (.builtin id) = pure (.type "method_descriptor")) (rule : MtR X id r) (ho : PEu X o to)
    (hbase : attributeBase o name X.env (eval o X.env) = eval o X.env := by rfl) (hline : (apos.endLine == pos.line) = true := by rfl) : PEu X (.Call (.Attribute o name apos) [] [] pos) (tM0 r to) := by
  intro pins s σ H Q I h
  refine PySem.Call_method0 hbase hline (wpAny_mono (ho pins s σ H _ I h) (fun v s1 ⟨hk, x, H1, I1, r1, q1⟩ => ?_) fun _ _ z => z)
  obtain ⟨⟨a, rfl⟩, q1⟩ := q1
  obtain ⟨t, rfl⟩ := _root_.id r1
  refine ⟨"str", _, PySem.F.plainAttrs_str, slot, ty, typeIs_str _ _ _, (fun _ e => nomatch e), Calls.callWith_builtin rfl (PySem.evalArgs_none ?_)⟩
  exact wpAny_mono (PySem.wpAny_toks (rule pins s1 σ H1 _ [] _ [] Q I1 r1 .nil q1)) (fun v5 s5 q5 => ⟨Nat.le_trans hk q5.1, q5.2⟩) fun _ _ z => z.2
theorem pet_m0 {id : String} {name : Str} {r : V → List V → Hp → VK → Prop} (slot : Slot "str" name id) (ty : typeOf (.builtin id) = pure (.type "method_descriptor")) (rule : MtR X id r) (ho : PET X o to)
    (hbase : attributeBase o name X.env (eval o X.env) = eval o X.env := by rfl) (hline : (apos.endLine == pos.line) = true := by rfl) : PET X (.Call (.Attribute o name apos) [] [] pos) (tM0 r to) := by
  intro pins s σ H Q h0 I h
  refine PySem.Call_method0 hbase hline (thn (ho pins s σ H _ h0 I h) fun v s1 ⟨x, H1, I1, r1, q1⟩ => ?_)
  obtain ⟨⟨a, rfl⟩, q1⟩ := q1
  obtain ⟨t, rfl⟩ := _root_.id r1
  exact ⟨"str", _, PySem.F.plainAttrs_str, slot, ty, typeIs_str _ _ _, (fun _ e => nomatch e), Calls.callWith_builtin rfl (PySem.evalArgs_none (rule pins s1 σ H1 _ [] _ [] Q I1 r1 .nil q1))⟩
theorem pe_andU (ha : PEu X a ta) (hb : PET X b tb) : PE X (.BoolOp .And [a, b] pos) (tAndV ta tb) := by
  refine ⟨fun pins s σ H Q I h => ?_⟩
  refine BoolOp_and (wpAny_mono (ha pins s σ H _ I h) (fun v s1 ⟨hk, x, H1, I1, r1, q1⟩ => ?_) fun _ _ z => z)
  obtain ⟨c, rfl, q1⟩ := q1
  cases r1
  refine wpAny_truthy_bool ?_
  cases c with
  | true => exact BoolOp_one (hb pins s1 σ H1 Q hk I1 q1)
  | false => exact ⟨.bl false, H1, I1, rfl, q1⟩
end
/-- small and great letters -/
def lt (c : Nat) : Bool := decide (97 ≤ c ∧ c ≤ 122) || decide (65 ≤ c ∧ c ≤ 90)
def fst1 : List Nat → Bool
  | [] => false
  | c :: _ => lt c
def nc (c : Nat) : Bool := lt c || dg c || decide (c = 95)
theorem u_alpha : ∀ c, c < 128 → Unicode.isAlpha c = lt c := by decide +kernel
theorem u_alnum : ∀ c, c < 128 → Unicode.isAlnum c = (lt c || dg c) := by decide +kernel
theorem repl_us (l : List Nat) : StrLaws.replL [95] [97] l = l.map fun c => if c = 95 then 97 else c := by
  induction l with
  | nil => exact StrLaws.replL_nil
  | cons c r ih =>
    by_cases h : c = 95
    · rw [StrLaws.replL_hit (by simp) (by simp [h]), List.map_cons, if_pos h]
      simp [ih]
    · rw [StrLaws.replL_miss (by simpa using h), List.map_cons, if_neg h, ih]
theorem repl_S (l : List Nat) : Txt.replace (S l) (S [95]) (S [97]) = S (l.map fun c => if c = 95 then 97 else c) := by
  have ex : ∀ a b : Str, a.cps = b.cps → a = b := fun ⟨_⟩ ⟨_⟩ h => by cases h; rfl
  refine ex _ _ ?_
  have := StrLaws.replace_list (x := S l) (y := S [95]) (z := S [97]) (by rw [S_len]; exact Nat.le_refl 1)
  refine Array.ext' ?_
  rw [this]
  show StrLaws.replL [95] [97] l = _
  rw [repl_us]
theorem alnum_S (l : List Nat) (h : l.all (· < 128) = true) : Txt.isalnum (S (l.map fun c => if c = 95 then 97 else c)) = (!l.isEmpty && l.all nc) := by
  unfold Txt.isalnum
  rw [S_len]
  have e2 : (S (l.map fun c => if c = 95 then 97 else c)).cps.all Unicode.isAlnum = (l.map fun c => if c = 95 then 97 else c).all Unicode.isAlnum := by simp [S]
  rw [e2, List.all_map]
  have e : l.all (Unicode.isAlnum ∘ fun c => if c = 95 then 97 else c) = l.all nc := by
    clear e2
    induction l with
    | nil => rfl
    | cons c r ih =>
      rw [List.all_cons, Bool.and_eq_true] at h
      rw [List.all_cons, List.all_cons, ih h.2]
      congr 1
      show Unicode.isAlnum (if c = 95 then 97 else c) = nc c
      by_cases hc : c = 95
      · rw [if_pos hc, hc]
        decide +kernel
      · rw [if_neg hc, u_alnum c (of_decide_eq_true h.1)]
        unfold nc
        rw [decide_eq_false hc, Bool.or_false]
  rw [e]
  cases l <;> simp
theorem alpha1_S (l : List Nat) (h : l.all (· < 128) = true) : Txt.isalpha (S (l.take 1)) = fst1 l := by
  unfold Txt.isalpha
  rw [S_len]
  cases l with
  | nil => rfl
  | cons c r =>
    rw [List.all_cons, Bool.and_eq_true] at h
    have e2 : (S ((c :: r).take 1)).cps.all Unicode.isAlpha = Unicode.isAlpha c := by simp [S]
    rw [e2, u_alpha c (of_decide_eq_true h.1)]
    simp [fst1]
end NM

local macro_rules | `(tactic| walk_at "len") => `(tactic| first
  | omega
  | (simp only [List.length_append, List.length_cons, List.length_nil, List.length_take, List.length_drop, List.length_map]; omega)
  | decide)
local macro_rules | `(tactic| walk_at "w1") => `(tactic| first
  | with_reducible refine MT.w_m0 ?_
  | with_reducible refine MT.w_m1 ?_
  | with_reducible refine MT.w_slice ?_
  | with_reducible refine MT.w_nopart ?_
  | with_reducible refine MT.w_part ?_
  | ((with_reducible refine' MT.w_cutTo ?wh ?wa ?_); (case wh => walk_at "len"); (case wa => omega))
  | ((with_reducible refine' MT.w_cutFrom ?wh ?wa ?_); (case wh => walk_at "len"); (case wa => omega))
  | ((with_reducible refine' MT.w_addS ?wh ?_); (case wh => walk_at "len"))
  | ((with_reducible refine' MT.w_ixS ?wh ?wa ?_); (case wh => walk_at "len"); (case wa => assumption))
  | with_reducible refine MT.w_in1 ?_
  | with_reducible refine MT.w_notin1 ?_
  | with_reducible refine MT.w_chain ?_
  | with_reducible refine MT.w_rng3 ?_
  | ((with_reducible refine' MT.w_lenS ?wh ?_); (case wh => walk_at "len"))
  | with_reducible refine ⟨⟨_, rfl⟩, ?_⟩
  | with_reducible refine ⟨trivial, ?_⟩
  | with_reducible refine ⟨_, _, rfl, rfl, ?_⟩
  | fail "w1")

local macro_rules | `(tactic| walk_at "w1") => `(tactic| first
  | with_reducible refine MT.w_rEqS ?_
  | with_reducible refine MT.w_rNeS ?_
  | fail "w1")

namespace L
open PySem PySem.Spec PyProof.Rows L2 Z
def topS (i : Nat) : Stmt := PySem.Challenge.pw_papersat_k20_meeting_pairs.main.body.getD i (.Pass ⟨0, 0, 0, 0⟩)
abbrev s_Bank_init : Stmt := inClass (topS 12) 0
abbrev N_Bank_init : List Str := ["self", "signature"]
theorem sc_Bank_init : FnScope N_Bank_init ["self", "signature"] (defScope s_Bank_init) := ⟨rfl, rfl, rfl, by decide +kernel, rfl, by decide +kernel, by decide +kernel⟩
abbrev s_Bank_make : Stmt := inClass (topS 12) 1
abbrev N_Bank_make : List Str := ["self", "op", "value", "parts", "sorts", "part", "sort", "node"]
theorem sc_Bank_make : FnScope N_Bank_make ["self", "op", "value", "parts"] (defScope s_Bank_make) := ⟨rfl, rfl, rfl, by decide +kernel, rfl, by decide +kernel, by decide +kernel⟩
abbrev s_Bank_node : Stmt := inClass (topS 12) 3
abbrev N_Bank_node : List Str := ["self", "number"]
theorem sc_Bank_node : FnScope N_Bank_node ["self", "number"] (defScope s_Bank_node) := ⟨rfl, rfl, rfl, by decide +kernel, rfl, by decide +kernel, by decide +kernel⟩
abbrev s_Bank_sort_of : Stmt := inClass (topS 12) 4
abbrev N_Bank_sort_of : List Str := ["self", "number"]
theorem sc_Bank_sort_of : FnScope N_Bank_sort_of ["self", "number"] (defScope s_Bank_sort_of) := ⟨rfl, rfl, rfl, by decide +kernel, rfl, by decide +kernel, by decide +kernel⟩
abbrev s_Bank_has : Stmt := inClass (topS 12) 5
abbrev N_Bank_has : List Str := ["self", "number"]
theorem sc_Bank_has : FnScope N_Bank_has ["self", "number"] (defScope s_Bank_has) := ⟨rfl, rfl, rfl, by decide +kernel, rfl, by decide +kernel, by decide +kernel⟩
abbrev s_Bank_len : Stmt := inClass (topS 12) 6
abbrev N_Bank_len : List Str := ["self"]
theorem sc_Bank_len : FnScope N_Bank_len ["self"] (defScope s_Bank_len) := ⟨rfl, rfl, rfl, by decide +kernel, rfl, by decide +kernel, by decide +kernel⟩
abbrev s_Bank_iter : Stmt := inClass (topS 12) 7
abbrev N_Bank_iter : List Str := ["self"]
theorem sc_Bank_iter : FnScope N_Bank_iter ["self"] (defScope s_Bank_iter) := ⟨rfl, rfl, rfl, by decide +kernel, rfl, by decide +kernel, by decide +kernel⟩
abbrev s_parts_kept : Stmt := topS 13
abbrev N_parts_kept : List Str := ["op", "parts"]
theorem sc_parts_kept : FnScope N_parts_kept ["op", "parts"] (defScope s_parts_kept) := ⟨rfl, rfl, rfl, by decide +kernel, rfl, by decide +kernel, by decide +kernel⟩
abbrev s_sort_made : Stmt := topS 14
abbrev N_sort_made : List Str := ["signature", "op", "value", "sorts", "fits"]
theorem sc_sort_made : FnScope N_sort_made ["signature", "op", "value", "sorts"] (defScope s_sort_made) := ⟨rfl, rfl, rfl, by decide +kernel, rfl, by decide +kernel, by decide +kernel⟩
abbrev s_sum_fits : Stmt := topS 15
abbrev N_sum_fits : List Str := ["op", "sorts", "enough"]
theorem sc_sum_fits : FnScope N_sum_fits ["op", "sorts"] (defScope s_sum_fits) := ⟨rfl, rfl, rfl, by decide +kernel, rfl, by decide +kernel, by decide +kernel⟩
abbrev s_connective_fits : Stmt := topS 16
abbrev N_connective_fits : List Str := ["op", "sorts", "counts"]
theorem sc_connective_fits : FnScope N_connective_fits ["op", "sorts"] (defScope s_connective_fits) := ⟨rfl, rfl, rfl, by decide +kernel, rfl, by decide +kernel, by decide +kernel⟩
abbrev s_comparison_fits : Stmt := topS 17
abbrev N_comparison_fits : List Str := ["op", "sorts"]
theorem sc_comparison_fits : FnScope N_comparison_fits ["op", "sorts"] (defScope s_comparison_fits) := ⟨rfl, rfl, rfl, by decide +kernel, rfl, by decide +kernel, by decide +kernel⟩
abbrev s_all_of : Stmt := topS 18
abbrev N_all_of : List Str := ["sorts", "wanted", "sort"]
theorem sc_all_of : FnScope N_all_of ["sorts", "wanted"] (defScope s_all_of) := ⟨rfl, rfl, rfl, by decide +kernel, rfl, by decide +kernel, by decide +kernel⟩
abbrev s_is_name : Stmt := topS 21
abbrev N_is_name : List Str := ["text"]
theorem sc_is_name : FnScope N_is_name ["text"] (defScope s_is_name) := ⟨rfl, rfl, rfl, by decide +kernel, rfl, by decide +kernel, by decide +kernel⟩
abbrev s_meeting_pairs : Stmt := topS 24
abbrev N_meeting_pairs : List Str := ["bank", "nodes", "calls", "node", "op", "name", "_", "pairs", "same", "k", "u", "v", "pair"]
theorem sc_meeting_pairs : FnScope N_meeting_pairs ["bank", "nodes"] (defScope s_meeting_pairs) := ⟨rfl, rfl, rfl, by decide +kernel, rfl, by decide +kernel, by decide +kernel⟩
abbrev s_pairs_of_calls : Stmt := topS 25
abbrev N_pairs_of_calls : List Str := ["bank", "u", "v", "pairs", "x", "y"]
theorem sc_pairs_of_calls : FnScope N_pairs_of_calls ["bank", "u", "v"] (defScope s_pairs_of_calls) := ⟨rfl, rfl, rfl, by decide +kernel, rfl, by decide +kernel, by decide +kernel⟩
abbrev s_Signature_init : Stmt := inClass (topS 28) 0
abbrev N_Signature_init : List Str := ["self"]
theorem sc_Signature_init : FnScope N_Signature_init ["self"] (defScope s_Signature_init) := ⟨rfl, rfl, rfl, by decide +kernel, rfl, by decide +kernel, by decide +kernel⟩
abbrev s_Signature_declare_sort : Stmt := inClass (topS 28) 1
abbrev N_Signature_declare_sort : List Str := ["self", "name"]
theorem sc_Signature_declare_sort : FnScope N_Signature_declare_sort ["self", "name"] (defScope s_Signature_declare_sort) := ⟨rfl, rfl, rfl, by decide +kernel, rfl, by decide +kernel, by decide +kernel⟩
abbrev s_Signature_declare_function : Stmt := inClass (topS 28) 2
abbrev N_Signature_declare_function : List Str := ["self", "name", "arguments", "result", "sort"]
theorem sc_Signature_declare_function : FnScope N_Signature_declare_function ["self", "name", "arguments", "result"] (defScope s_Signature_declare_function) := ⟨rfl, rfl, rfl, by decide +kernel, rfl, by decide +kernel, by decide +kernel⟩
abbrev s_Signature_knows_sort : Stmt := inClass (topS 28) 5
abbrev N_Signature_knows_sort : List Str := ["self", "name"]
theorem sc_Signature_knows_sort : FnScope N_Signature_knows_sort ["self", "name"] (defScope s_Signature_knows_sort) := ⟨rfl, rfl, rfl, by decide +kernel, rfl, by decide +kernel, by decide +kernel⟩
abbrev s_Signature_knows_function : Stmt := inClass (topS 28) 6
abbrev N_Signature_knows_function : List Str := ["self", "name"]
theorem sc_Signature_knows_function : FnScope N_Signature_knows_function ["self", "name"] (defScope s_Signature_knows_function) := ⟨rfl, rfl, rfl, by decide +kernel, rfl, by decide +kernel, by decide +kernel⟩
abbrev s_Signature_arguments_of : Stmt := inClass (topS 28) 7
abbrev N_Signature_arguments_of : List Str := ["self", "name"]
theorem sc_Signature_arguments_of : FnScope N_Signature_arguments_of ["self", "name"] (defScope s_Signature_arguments_of) := ⟨rfl, rfl, rfl, by decide +kernel, rfl, by decide +kernel, by decide +kernel⟩
abbrev s_Signature_result_of : Stmt := inClass (topS 28) 8
abbrev N_Signature_result_of : List Str := ["self", "name"]
theorem sc_Signature_result_of : FnScope N_Signature_result_of ["self", "name"] (defScope s_Signature_result_of) := ⟨rfl, rfl, rfl, by decide +kernel, rfl, by decide +kernel, by decide +kernel⟩
abbrev s_Signature_function : Stmt := inClass (topS 28) 9
abbrev N_Signature_function : List Str := ["self", "name"]
theorem sc_Signature_function : FnScope N_Signature_function ["self", "name"] (defScope s_Signature_function) := ⟨rfl, rfl, rfl, by decide +kernel, rfl, by decide +kernel, by decide +kernel⟩
abbrev s_Signature_refuse_name : Stmt := inClass (topS 28) 10
abbrev N_Signature_refuse_name : List Str := ["self", "name"]
theorem sc_Signature_refuse_name : FnScope N_Signature_refuse_name ["self", "name"] (defScope s_Signature_refuse_name) := ⟨rfl, rfl, rfl, by decide +kernel, rfl, by decide +kernel, by decide +kernel⟩
abbrev s_pool : Stmt := topS 30
abbrev N_pool : List Str := ["_law_script", "_law_k", "_law_cell", "_law_spare"]
theorem sc_pool : FnScope N_pool ["_law_script", "_law_k"] (defScope s_pool) := ⟨rfl, rfl, rfl, by decide +kernel, rfl, by decide +kernel, by decide +kernel⟩
abbrev s_take : Stmt := topS 31
abbrev N_take : List Str := ["_law_pool_here", "_law_size", "_law_k", "_law_cell", "_law_mixed"]
theorem sc_take : FnScope N_take ["_law_pool_here", "_law_size"] (defScope s_take) := ⟨rfl, rfl, rfl, by decide +kernel, rfl, by decide +kernel, by decide +kernel⟩
abbrev s_word : Stmt := topS 32
abbrev N_word : List Str := ["_law_pool_here", "_law_place", "_law_small", "_law_great", "_law_fill", "_law_size", "_law_at"]
theorem sc_word : FnScope N_word ["_law_pool_here", "_law_place"] (defScope s_word) := ⟨rfl, rfl, rfl, by decide +kernel, rfl, by decide +kernel, by decide +kernel⟩
abbrev s_world : Stmt := topS 33
abbrev N_world : List Str := ["_law_pool_here", "_law_told", "_law_rows", "_law_results", "_law_names", "_law_k"]
theorem sc_world : FnScope N_world ["_law_pool_here"] (defScope s_world) := ⟨rfl, rfl, rfl, by decide +kernel, rfl, by decide +kernel, by decide +kernel⟩
abbrev s_declare : Stmt := topS 34
abbrev N_declare : List Str := ["_law_world_here", "_law_desk", "_law_row"]
theorem sc_declare : FnScope N_declare ["_law_world_here", "_law_desk"] (defScope s_declare) := ⟨rfl, rfl, rfl, by decide +kernel, rfl, by decide +kernel, by decide +kernel⟩
abbrev s_alike : Stmt := topS 35
abbrev N_alike : List Str := ["_law_told", "_law_due_here", "_law_k"]
theorem sc_alike : FnScope N_alike ["_law_told", "_law_due_here"] (defScope s_alike) := ⟨rfl, rfl, rfl, by decide +kernel, rfl, by decide +kernel, by decide +kernel⟩
abbrev s_sort_for : Stmt := topS 36
abbrev N_sort_for : List Str := ["_law_world_here", "_law_sorts", "_law_node", "_law_row"]
theorem sc_sort_for : FnScope N_sort_for ["_law_world_here", "_law_sorts", "_law_node"] (defScope s_sort_for) := ⟨rfl, rfl, rfl, by decide +kernel, rfl, by decide +kernel, by decide +kernel⟩
abbrev s_put : Stmt := topS 37
abbrev N_put : List Str := ["_law_world_here", "_law_table", "_law_op", "_law_value", "_law_parts", "_law_node", "_law_index"]
theorem sc_put : FnScope N_put ["_law_world_here", "_law_table", "_law_op", "_law_value", "_law_parts"] (defScope s_put) := ⟨rfl, rfl, rfl, by decide +kernel, rfl, by decide +kernel, by decide +kernel⟩
abbrev s_make : Stmt := topS 38
abbrev N_make : List Str := ["_law_world_here", "_law_table", "_law_bank", "_law_row", "_law_n"]
theorem sc_make : FnScope N_make ["_law_world_here", "_law_table", "_law_bank", "_law_row"] (defScope s_make) := ⟨rfl, rfl, rfl, by decide +kernel, rfl, by decide +kernel, by decide +kernel⟩
abbrev s_some : Stmt := topS 39
abbrev N_some : List Str := ["_law_pool_here", "_law_sorts", "_law_sort", "_law_fit", "_law_n"]
theorem sc_some : FnScope N_some ["_law_pool_here", "_law_sorts", "_law_sort"] (defScope s_some) := ⟨rfl, rfl, rfl, by decide +kernel, rfl, by decide +kernel, by decide +kernel⟩
abbrev s_wide : Stmt := topS 40
abbrev N_wide : List Str := ["_law_pool_here", "_law_world_here", "_law_sorts", "_law_arguments", "_law_k", "_law_result"]
theorem sc_wide : FnScope N_wide ["_law_pool_here", "_law_world_here"] (defScope s_wide) := ⟨rfl, rfl, rfl, by decide +kernel, rfl, by decide +kernel, by decide +kernel⟩
abbrev s_begun : Stmt := topS 41
abbrev N_begun : List Str := ["_law_pool_here", "_law_world_here", "_law_table", "_law_bank", "_law_rows", "_law_k", "_law_row"]
theorem sc_begun : FnScope N_begun ["_law_pool_here", "_law_world_here", "_law_table", "_law_bank"] (defScope s_begun) := ⟨rfl, rfl, rfl, by decide +kernel, rfl, by decide +kernel, by decide +kernel⟩
abbrev s_called : Stmt := topS 42
abbrev N_called : List Str := ["_law_pool_here", "_law_world_here", "_law_table", "_law_bank", "_law_liked", "_law_row", "_law_parts", "_law_sort", "_law_before", "_law_node", "_law_at", "_law_drawn"]
theorem sc_called : FnScope N_called ["_law_pool_here", "_law_world_here", "_law_table", "_law_bank", "_law_liked"] (defScope s_called) := ⟨rfl, rfl, rfl, by decide +kernel, rfl, by decide +kernel, by decide +kernel⟩
abbrev s_list : Stmt := topS 43
abbrev N_list : List Str := ["_law_pool_here", "_law_many", "_law_given", "_law_n"]
theorem sc_list : FnScope N_list ["_law_pool_here", "_law_many"] (defScope s_list) := ⟨rfl, rfl, rfl, by decide +kernel, rfl, by decide +kernel, by decide +kernel⟩
abbrev s_note : Stmt := topS 44
abbrev N_note : List Str := ["_law_table", "_law_pairs", "_law_a", "_law_b"]
theorem sc_note : FnScope N_note ["_law_table", "_law_pairs", "_law_a", "_law_b"] (defScope s_note) := ⟨rfl, rfl, rfl, by decide +kernel, rfl, by decide +kernel, by decide +kernel⟩
abbrev s_due : Stmt := topS 45
abbrev N_due : List Str := ["_law_table", "_law_given", "_law_pairs", "_law_u", "_law_v", "_law_one", "_law_two", "_law_k"]
theorem sc_due : FnScope N_due ["_law_table", "_law_given"] (defScope s_due) := ⟨rfl, rfl, rfl, by decide +kernel, rfl, by decide +kernel, by decide +kernel⟩
abbrev s_pairs_told : Stmt := topS 46
abbrev N_pairs_told : List Str := ["_law_table", "_law_bank", "_law_given", "_law_due_here", "_law_passed", "_law_told"]
theorem sc_pairs_told : FnScope N_pairs_told ["_law_table", "_law_bank", "_law_given"] (defScope s_pairs_told) := ⟨rfl, rfl, rfl, by decide +kernel, rfl, by decide +kernel, by decide +kernel⟩
abbrev s_law : Stmt := topS 47
abbrev N_law : List Str := ["_law_script", "_law_world_here", "_law_signature", "_law_bank", "_law_nodes", "_law_table", "_law_pool_here", "_law_liked", "_law_k", "_law_first", "_law_n"]
theorem sc_law : FnScope N_law ["_law_script"] (defScope s_law) := ⟨rfl, rfl, rfl, by decide +kernel, rfl, by decide +kernel, by decide +kernel⟩
def lit_0 : List Nat := [97, 98, 99, 100, 101, 102, 103, 104, 105, 106, 107, 108, 109, 110, 111, 112, 113, 114, 115, 116, 117, 118, 119, 120, 121, 122]
def lit_1 : List Nat := [65, 66, 67, 68, 69, 70, 71, 72, 73, 74, 75, 76, 77, 78, 79, 80, 81, 82, 83, 84, 85, 86, 87, 88, 89, 90]
abbrev w_OPS : List (List Nat) := [[116, 114, 117, 101], [102, 97, 108, 115, 101], [110, 111, 116], [97, 110, 100], [111, 114], [105, 109, 112, 108, 121], [105, 102], [101, 113, 117, 97, 108], [100, 105, 115, 116, 105, 110, 99, 116], [109, 111, 115, 116], [108, 101, 115, 115], [119, 104, 111, 108, 101], [115, 104, 105, 102, 116], [114, 97, 116, 105, 111], [115, 117, 109], [115, 99, 97, 108, 101], [99, 97, 108, 108]]
abbrev w_RESERVED : List (List Nat) := [[116, 114, 117, 116, 104], [119, 104, 111, 108, 101], [114, 97, 116, 105, 111], [116, 114, 117, 101], [102, 97, 108, 115, 101], [110, 111, 116], [97, 110, 100], [111, 114], [105, 109, 112, 108, 121], [105, 102], [100, 105, 115, 116, 105, 110, 99, 116], [108, 101, 116]]
abbrev w_BASE_SORTS : List (List Nat) := [[116, 114, 117, 116, 104], [119, 104, 111, 108, 101], [114, 97, 116, 105, 111]]
abbrev w_NUMBER_SORTS : List (List Nat) := [[119, 104, 111, 108, 101], [114, 97, 116, 105, 111]]
abbrev w_CONNECTIVES : List (List Nat) := [[110, 111, 116], [97, 110, 100], [111, 114], [105, 109, 112, 108, 121]]
abbrev d_LEAF_SORTS : List (List Nat × List Nat) := [([116, 114, 117, 101], [116, 114, 117, 116, 104]), ([102, 97, 108, 115, 101], [116, 114, 117, 116, 104]), ([119, 104, 111, 108, 101], [119, 104, 111, 108, 101]), ([114, 97, 116, 105, 111], [114, 97, 116, 105, 111])]
abbrev d_SUMS : List (List Nat × List Nat) := [([115, 104, 105, 102, 116], [119, 104, 111, 108, 101]), ([115, 99, 97, 108, 101], [114, 97, 116, 105, 111]), ([115, 117, 109], [114, 97, 116, 105, 111])]
structure Txt (K : PySem.W.Frag) (mg : Str → Option Value) : Type where
  f_Bank_init : Addr
  fd_Bank_init : FuncData
  F_Bank_init : Fun K "__init__" "Bank.__init__" s_Bank_init f_Bank_init fd_Bank_init
  b_Bank_init : Binds K fd_Bank_init ["self", "signature"] []
  f_Bank_make : Addr
  fd_Bank_make : FuncData
  F_Bank_make : Fun K "make" "Bank.make" s_Bank_make f_Bank_make fd_Bank_make
  b_Bank_make : Binds K fd_Bank_make ["self", "op", "value", "parts"] []
  f_Bank_node : Addr
  fd_Bank_node : FuncData
  F_Bank_node : Fun K "node" "Bank.node" s_Bank_node f_Bank_node fd_Bank_node
  b_Bank_node : Binds K fd_Bank_node ["self", "number"] []
  f_Bank_sort_of : Addr
  fd_Bank_sort_of : FuncData
  F_Bank_sort_of : Fun K "sort_of" "Bank.sort_of" s_Bank_sort_of f_Bank_sort_of fd_Bank_sort_of
  b_Bank_sort_of : Binds K fd_Bank_sort_of ["self", "number"] []
  f_Bank_has : Addr
  fd_Bank_has : FuncData
  F_Bank_has : Fun K "has" "Bank.has" s_Bank_has f_Bank_has fd_Bank_has
  b_Bank_has : Binds K fd_Bank_has ["self", "number"] []
  f_Bank_len : Addr
  fd_Bank_len : FuncData
  F_Bank_len : Fun K "__len__" "Bank.__len__" s_Bank_len f_Bank_len fd_Bank_len
  b_Bank_len : Binds K fd_Bank_len ["self"] []
  f_Bank_iter : Addr
  fd_Bank_iter : FuncData
  F_Bank_iter : Fun K "__iter__" "Bank.__iter__" s_Bank_iter f_Bank_iter fd_Bank_iter
  b_Bank_iter : Binds K fd_Bank_iter ["self"] []
  f_parts_kept : Addr
  fd_parts_kept : FuncData
  F_parts_kept : Fun K "_parts_kept" "_parts_kept" s_parts_kept f_parts_kept fd_parts_kept
  b_parts_kept : Binds K fd_parts_kept ["op", "parts"] []
  g_parts_kept : mg "_parts_kept" = some (.ref f_parts_kept)
  f_sort_made : Addr
  fd_sort_made : FuncData
  F_sort_made : Fun K "_sort_made" "_sort_made" s_sort_made f_sort_made fd_sort_made
  b_sort_made : Binds K fd_sort_made ["signature", "op", "value", "sorts"] []
  g_sort_made : mg "_sort_made" = some (.ref f_sort_made)
  f_sum_fits : Addr
  fd_sum_fits : FuncData
  F_sum_fits : Fun K "_sum_fits" "_sum_fits" s_sum_fits f_sum_fits fd_sum_fits
  b_sum_fits : Binds K fd_sum_fits ["op", "sorts"] []
  g_sum_fits : mg "_sum_fits" = some (.ref f_sum_fits)
  f_connective_fits : Addr
  fd_connective_fits : FuncData
  F_connective_fits : Fun K "_connective_fits" "_connective_fits" s_connective_fits f_connective_fits fd_connective_fits
  b_connective_fits : Binds K fd_connective_fits ["op", "sorts"] []
  g_connective_fits : mg "_connective_fits" = some (.ref f_connective_fits)
  f_comparison_fits : Addr
  fd_comparison_fits : FuncData
  F_comparison_fits : Fun K "_comparison_fits" "_comparison_fits" s_comparison_fits f_comparison_fits fd_comparison_fits
  b_comparison_fits : Binds K fd_comparison_fits ["op", "sorts"] []
  g_comparison_fits : mg "_comparison_fits" = some (.ref f_comparison_fits)
  f_all_of : Addr
  fd_all_of : FuncData
  F_all_of : Fun K "_all_of" "_all_of" s_all_of f_all_of fd_all_of
  b_all_of : Binds K fd_all_of ["sorts", "wanted"] []
  g_all_of : mg "_all_of" = some (.ref f_all_of)
  f_is_name : Addr
  fd_is_name : FuncData
  F_is_name : Fun K "is_name" "is_name" s_is_name f_is_name fd_is_name
  b_is_name : Binds K fd_is_name ["text"] []
  g_is_name : mg "is_name" = some (.ref f_is_name)
  f_meeting_pairs : Addr
  fd_meeting_pairs : FuncData
  F_meeting_pairs : Fun K "meeting_pairs" "meeting_pairs" s_meeting_pairs f_meeting_pairs fd_meeting_pairs
  b_meeting_pairs : Binds K fd_meeting_pairs ["bank", "nodes"] []
  g_meeting_pairs : mg "meeting_pairs" = some (.ref f_meeting_pairs)
  f_pairs_of_calls : Addr
  fd_pairs_of_calls : FuncData
  F_pairs_of_calls : Fun K "_pairs_of_calls" "_pairs_of_calls" s_pairs_of_calls f_pairs_of_calls fd_pairs_of_calls
  b_pairs_of_calls : Binds K fd_pairs_of_calls ["bank", "u", "v"] []
  g_pairs_of_calls : mg "_pairs_of_calls" = some (.ref f_pairs_of_calls)
  f_Signature_init : Addr
  fd_Signature_init : FuncData
  F_Signature_init : Fun K "__init__" "Signature.__init__" s_Signature_init f_Signature_init fd_Signature_init
  b_Signature_init : Binds K fd_Signature_init ["self"] []
  f_Signature_declare_sort : Addr
  fd_Signature_declare_sort : FuncData
  F_Signature_declare_sort : Fun K "declare_sort" "Signature.declare_sort" s_Signature_declare_sort f_Signature_declare_sort fd_Signature_declare_sort
  b_Signature_declare_sort : Binds K fd_Signature_declare_sort ["self", "name"] []
  f_Signature_declare_function : Addr
  fd_Signature_declare_function : FuncData
  F_Signature_declare_function : Fun K "declare_function" "Signature.declare_function" s_Signature_declare_function f_Signature_declare_function fd_Signature_declare_function
  b_Signature_declare_function : Binds K fd_Signature_declare_function ["self", "name", "arguments", "result"] []
  f_Signature_knows_sort : Addr
  fd_Signature_knows_sort : FuncData
  F_Signature_knows_sort : Fun K "knows_sort" "Signature.knows_sort" s_Signature_knows_sort f_Signature_knows_sort fd_Signature_knows_sort
  b_Signature_knows_sort : Binds K fd_Signature_knows_sort ["self", "name"] []
  f_Signature_knows_function : Addr
  fd_Signature_knows_function : FuncData
  F_Signature_knows_function : Fun K "knows_function" "Signature.knows_function" s_Signature_knows_function f_Signature_knows_function fd_Signature_knows_function
  b_Signature_knows_function : Binds K fd_Signature_knows_function ["self", "name"] []
  f_Signature_arguments_of : Addr
  fd_Signature_arguments_of : FuncData
  F_Signature_arguments_of : Fun K "arguments_of" "Signature.arguments_of" s_Signature_arguments_of f_Signature_arguments_of fd_Signature_arguments_of
  b_Signature_arguments_of : Binds K fd_Signature_arguments_of ["self", "name"] []
  f_Signature_result_of : Addr
  fd_Signature_result_of : FuncData
  F_Signature_result_of : Fun K "result_of" "Signature.result_of" s_Signature_result_of f_Signature_result_of fd_Signature_result_of
  b_Signature_result_of : Binds K fd_Signature_result_of ["self", "name"] []
  f_Signature_function : Addr
  fd_Signature_function : FuncData
  F_Signature_function : Fun K "_function" "Signature._function" s_Signature_function f_Signature_function fd_Signature_function
  b_Signature_function : Binds K fd_Signature_function ["self", "name"] []
  f_Signature_refuse_name : Addr
  fd_Signature_refuse_name : FuncData
  F_Signature_refuse_name : Fun K "_refuse_name" "Signature._refuse_name" s_Signature_refuse_name f_Signature_refuse_name fd_Signature_refuse_name
  b_Signature_refuse_name : Binds K fd_Signature_refuse_name ["self", "name"] []
  f_pool : Addr
  fd_pool : FuncData
  F_pool : Fun K "_law_pool" "_law_pool" s_pool f_pool fd_pool
  b_pool : Binds K fd_pool ["_law_script", "_law_k"] []
  g_pool : mg "_law_pool" = some (.ref f_pool)
  f_take : Addr
  fd_take : FuncData
  F_take : Fun K "_law_take" "_law_take" s_take f_take fd_take
  b_take : Binds K fd_take ["_law_pool_here", "_law_size"] []
  g_take : mg "_law_take" = some (.ref f_take)
  f_word : Addr
  fd_word : FuncData
  F_word : Fun K "_law_word" "_law_word" s_word f_word fd_word
  b_word : Binds K fd_word ["_law_pool_here", "_law_place"] []
  g_word : mg "_law_word" = some (.ref f_word)
  f_world : Addr
  fd_world : FuncData
  F_world : Fun K "_law_world" "_law_world" s_world f_world fd_world
  b_world : Binds K fd_world ["_law_pool_here"] []
  g_world : mg "_law_world" = some (.ref f_world)
  f_declare : Addr
  fd_declare : FuncData
  F_declare : Fun K "_law_declare" "_law_declare" s_declare f_declare fd_declare
  b_declare : Binds K fd_declare ["_law_world_here", "_law_desk"] []
  g_declare : mg "_law_declare" = some (.ref f_declare)
  f_alike : Addr
  fd_alike : FuncData
  F_alike : Fun K "_law_alike" "_law_alike" s_alike f_alike fd_alike
  b_alike : Binds K fd_alike ["_law_told", "_law_due_here"] []
  g_alike : mg "_law_alike" = some (.ref f_alike)
  f_sort_for : Addr
  fd_sort_for : FuncData
  F_sort_for : Fun K "_law_sort_for" "_law_sort_for" s_sort_for f_sort_for fd_sort_for
  b_sort_for : Binds K fd_sort_for ["_law_world_here", "_law_sorts", "_law_node"] []
  g_sort_for : mg "_law_sort_for" = some (.ref f_sort_for)
  f_put : Addr
  fd_put : FuncData
  F_put : Fun K "_law_put" "_law_put" s_put f_put fd_put
  b_put : Binds K fd_put ["_law_world_here", "_law_table", "_law_op", "_law_value", "_law_parts"] []
  g_put : mg "_law_put" = some (.ref f_put)
  f_make : Addr
  fd_make : FuncData
  F_make : Fun K "_law_make" "_law_make" s_make f_make fd_make
  b_make : Binds K fd_make ["_law_world_here", "_law_table", "_law_bank", "_law_row"] []
  g_make : mg "_law_make" = some (.ref f_make)
  f_some : Addr
  fd_some : FuncData
  F_some : Fun K "_law_some" "_law_some" s_some f_some fd_some
  b_some : Binds K fd_some ["_law_pool_here", "_law_sorts", "_law_sort"] []
  g_some : mg "_law_some" = some (.ref f_some)
  f_wide : Addr
  fd_wide : FuncData
  F_wide : Fun K "_law_wide" "_law_wide" s_wide f_wide fd_wide
  b_wide : Binds K fd_wide ["_law_pool_here", "_law_world_here"] []
  g_wide : mg "_law_wide" = some (.ref f_wide)
  f_begun : Addr
  fd_begun : FuncData
  F_begun : Fun K "_law_begun" "_law_begun" s_begun f_begun fd_begun
  b_begun : Binds K fd_begun ["_law_pool_here", "_law_world_here", "_law_table", "_law_bank"] []
  g_begun : mg "_law_begun" = some (.ref f_begun)
  f_called : Addr
  fd_called : FuncData
  F_called : Fun K "_law_called" "_law_called" s_called f_called fd_called
  b_called : Binds K fd_called ["_law_pool_here", "_law_world_here", "_law_table", "_law_bank", "_law_liked"] []
  g_called : mg "_law_called" = some (.ref f_called)
  f_list : Addr
  fd_list : FuncData
  F_list : Fun K "_law_list" "_law_list" s_list f_list fd_list
  b_list : Binds K fd_list ["_law_pool_here", "_law_many"] []
  g_list : mg "_law_list" = some (.ref f_list)
  f_note : Addr
  fd_note : FuncData
  F_note : Fun K "_law_note" "_law_note" s_note f_note fd_note
  b_note : Binds K fd_note ["_law_table", "_law_pairs", "_law_a", "_law_b"] []
  g_note : mg "_law_note" = some (.ref f_note)
  f_due : Addr
  fd_due : FuncData
  F_due : Fun K "_law_due" "_law_due" s_due f_due fd_due
  b_due : Binds K fd_due ["_law_table", "_law_given"] []
  g_due : mg "_law_due" = some (.ref f_due)
  f_pairs_told : Addr
  fd_pairs_told : FuncData
  F_pairs_told : Fun K "_law_pairs_told" "_law_pairs_told" s_pairs_told f_pairs_told fd_pairs_told
  b_pairs_told : Binds K fd_pairs_told ["_law_table", "_law_bank", "_law_given"] []
  g_pairs_told : mg "_law_pairs_told" = some (.ref f_pairs_told)
  f_law : Addr
  fd_law : FuncData
  F_law : Fun K "law" "law" s_law f_law fd_law
  b_law : Binds K fd_law ["_law_script"] []
  g_law : mg "law" = some (.ref f_law)
  C_Signature : Addr
  c_Signature : mg "Signature" = some (.ref C_Signature)
  cl_Signature : Cls K C_Signature
  mk_Signature : Mk K C_Signature f_Signature_init
  n_Signature__sorts : NoAttr K C_Signature "_sorts"
  n_Signature__functions : NoAttr K C_Signature "_functions"
  M_Signature_init : Meth K C_Signature "__init__" f_Signature_init
  M_Signature_declare_sort : Meth K C_Signature "declare_sort" f_Signature_declare_sort
  M_Signature_declare_function : Meth K C_Signature "declare_function" f_Signature_declare_function
  M_Signature_knows_sort : Meth K C_Signature "knows_sort" f_Signature_knows_sort
  M_Signature_knows_function : Meth K C_Signature "knows_function" f_Signature_knows_function
  M_Signature_arguments_of : Meth K C_Signature "arguments_of" f_Signature_arguments_of
  M_Signature_result_of : Meth K C_Signature "result_of" f_Signature_result_of
  M_Signature_function : Meth K C_Signature "_function" f_Signature_function
  M_Signature_refuse_name : Meth K C_Signature "_refuse_name" f_Signature_refuse_name
  C_Bank : Addr
  c_Bank : mg "Bank" = some (.ref C_Bank)
  cl_Bank : Cls K C_Bank
  mk_Bank : Mk K C_Bank f_Bank_init
  n_Bank_signature : NoAttr K C_Bank "signature"
  n_Bank__nodes : NoAttr K C_Bank "_nodes"
  n_Bank__sorts : NoAttr K C_Bank "_sorts"
  n_Bank__numbers : NoAttr K C_Bank "_numbers"
  M_Bank_init : Meth K C_Bank "__init__" f_Bank_init
  M_Bank_make : Meth K C_Bank "make" f_Bank_make
  M_Bank_node : Meth K C_Bank "node" f_Bank_node
  M_Bank_sort_of : Meth K C_Bank "sort_of" f_Bank_sort_of
  M_Bank_has : Meth K C_Bank "has" f_Bank_has
  M_Bank_len : Meth K C_Bank "__len__" f_Bank_len
  M_Bank_iter : Meth K C_Bank "__iter__" f_Bank_iter
  ln_Bank : OWN.LnC K C_Bank f_Bank_len
  it_Bank : OWN.ItB K C_Bank f_Bank_iter f_Bank_len
  m_len : mg "len" = none
  m_int : mg "int" = none
  m_min : mg "min" = none
  m_max : mg "max" = none
  m_isinstance : mg "isinstance" = none
  m_range : mg "range" = none
  m_bool : mg "bool" = none
  m_str : mg "str" = none
  m_list : mg "list" = none
  m_tuple : mg "tuple" = none
  m_sorted : mg "sorted" = none
  m_enumerate : mg "enumerate" = none
  m_zip : mg "zip" = none
  m_set : mg "set" = none
  m_all : mg "all" = none
  m_iter : mg "iter" = none
  A_OPS : Addr
  g_OPS : mg "OPS" = some (.ref A_OPS)
  z_OPS : ∀ H : Hp, SqT K H A_OPS (w_OPS.map fun l => V.str (_root_.SX.S l))
  A_RESERVED : Addr
  g_RESERVED : mg "RESERVED" = some (.ref A_RESERVED)
  z_RESERVED : ∀ H : Hp, SqT K H A_RESERVED (w_RESERVED.map fun l => V.str (_root_.SX.S l))
  A_BASE_SORTS : Addr
  g_BASE_SORTS : mg "BASE_SORTS" = some (.ref A_BASE_SORTS)
  z_BASE_SORTS : ∀ H : Hp, SqT K H A_BASE_SORTS (w_BASE_SORTS.map fun l => V.str (_root_.SX.S l))
  A_NUMBER_SORTS : Addr
  g_NUMBER_SORTS : mg "NUMBER_SORTS" = some (.ref A_NUMBER_SORTS)
  z_NUMBER_SORTS : ∀ H : Hp, SqT K H A_NUMBER_SORTS (w_NUMBER_SORTS.map fun l => V.str (_root_.SX.S l))
  A_CONNECTIVES : Addr
  g_CONNECTIVES : mg "CONNECTIVES" = some (.ref A_CONNECTIVES)
  z_CONNECTIVES : ∀ H : Hp, SqT K H A_CONNECTIVES (w_CONNECTIVES.map fun l => V.str (_root_.SX.S l))
  A_LEAF_SORTS : Addr
  g_LEAF_SORTS : mg "LEAF_SORTS" = some (.ref A_LEAF_SORTS)
  n_LEAF_SORTS : ∀ q ∈ d_LEAF_SORTS, ∃ t, PySem.W.nsIn K A_LEAF_SORTS (_root_.SX.S q.1) = some (some (.str (_root_.SX.S q.2) t))
  A_SUMS : Addr
  g_SUMS : mg "SUMS" = some (.ref A_SUMS)
  n_SUMS : ∀ q ∈ d_SUMS, ∃ t, PySem.W.nsIn K A_SUMS (_root_.SX.S q.1) = some (some (.str (_root_.SX.S q.2) t))
end L

namespace L
open PySem PySem.Spec PyProof.Rows L2 Z
section
variable {P : Program} {w : World} {K : PySem.W.Frag} {mg : Str → Option Value} {base : Heap}
def spPool (K : PySem.W.Frag) : Sp := fun vs H Q _ => ∃ (a : Addr) (ns : List Int) (k : Int), vs = [.ref a, .int k] ∧ SqL K H a (ns.map V.int) ∧ ns.length ≤ 1000 ∧ 0 ≤ k ∧ k < 2 ^ 62 ∧ ∀ q o, H q = none → IsPool o → Q (.ref q) (upd H q o)
def spTake : Sp := fun vs H Q _ => ∃ (q : Addr) (o : HO) (n : Int), vs = [.ref q, .int n] ∧ H q = some o ∧ IsPool o ∧ 0 < n ∧ n < 1073741824 ∧ ∀ r o', 0 ≤ r → r < n → IsPool o' → Q (.int r) (upd H q o')
theorem ok_take (T : Txt K mg) : FnOk P w K mg base CX0 1 T.f_take T.fd_take ["_law_pool_here", "_law_size"] spTake := by
  refine T.F_take.ok sc_take (fun vs H Q E h => ?_) (fun cdv A outer s H vs Q E hr h => ?_)
  · obtain ⟨q, o, n, rfl, _⟩ := h
    rfl
  · obtain ⟨q, o, n, rfl, ho, ⟨c, k, b, s', rfl⟩, hn, hn2, hq⟩ := h
    refine ⟨_, (pss_cons (ps_set (i := 2) sc_take.nd rfl (.inl rfl) (pe_ix ix_list (pv 0) pe_int (fun _ _ => rfl)))
 (pss_cons (ps_asg (pe_op op_add (pv 2) pe_int) (pg_sub (pv 0) pe_int set_list))
 (pss_cons (ps_set (i := 3) sc_take.nd rfl (.inl rfl) (pe_ix ix_list (pv 0) pe_int (fun _ _ => rfl)))
 (pss_cons (ps_if (PW.pt (pw_and (pt_val (pe_ix ix_list (pv 0) pe_int (fun _ _ => rfl))) (pw_and1 (pt_cmpR op_gt (pv 3) pe_int (nomark _))))) (pss_cons (ps_asg (pe_op op_fdiv (pv 3) (pv 1)) (pg_sub (pv 0) pe_int set_list))
 (pss_one (ps_ret (pe_op op_mod (pe_callTy call_int1 (by rfl) T.m_int (by decide +kernel) (pa_cons (pv 3) pa_nil)) (pv 1))))) pss_nil)
 (pss_cons (ps_if (pt_val (pe_ix ix_list (pv 0) pe_int (fun _ _ => rfl))) (pss_one (ps_set (i := 3) sc_take.nd rfl (.inl rfl) (pe_ix ix_list (pv 0) pe_int (fun _ _ => rfl)))) pss_nil)
 (pss_cons (ps_set (i := 4) sc_take.nd rfl (.inl rfl) (pe_op op_mod (pe_callTy call_int1 (by rfl) T.m_int (by decide +kernel) (pa_cons (pe_op op_add (pe_op op_add (pv 3) (pe_op op_mul pe_int (pv 2))) pe_int) pa_nil)) pe_int))
 (pss_cons (ps_set (i := 4) sc_take.nd rfl (.inl rfl) (pe_op op_mod (pe_callTy call_int1 (by rfl) T.m_int (by decide +kernel) (pa_cons (pe_op op_mul (pv 4) (pe_op op_add (pv 4) pe_int)) pa_nil)) pe_int))
 (pss_cons (ps_set (i := 4) sc_take.nd rfl (.inl rfl) (pe_op op_mod (pe_callTy call_int1 (by rfl) T.m_int (by decide +kernel) (pa_cons (pe_op op_add (pe_op op_mul (pv 4) (pe_op op_add (pv 4) pe_int)) (pe_op op_mul pe_int (pv 2))) pa_nil)) pe_int))
 (pss_one (ps_ret (pe_op op_mod (pe_callTy call_int1 (by rfl) T.m_int (by decide +kernel) (pa_cons (pe_op op_fdiv (pv 4) pe_int) pa_nil)) (pv 1)))))))))))), ?_⟩
    refine Z.w_start (σ' := [some (.ref q), some (.int n), none, none, none]) rfl ?_
    walk_at "w"
    cases b with
    | true =>
      walk_at "w"
      walk_at "wi"
      all_goals walk_at "w"
      all_goals exact hq _ _ (Int.emod_nonneg _ (by omega)) (Int.emod_lt_of_pos _ hn) ⟨_, _, _, _, rfl⟩
    | false =>
      walk_at "w"
      all_goals exact hq _ _ (Int.emod_nonneg _ (by omega)) (Int.emod_lt_of_pos _ hn) ⟨_, _, _, _, rfl⟩
theorem ok_pool (T : Txt K mg) : FnOk P w K mg base CX0 1 T.f_pool T.fd_pool ["_law_script", "_law_k"] (spPool K) := by
  refine T.F_pool.ok sc_pool (fun vs H Q E h => ?_) (fun cdv A outer s H vs Q E hr h => ?_)
  · obtain ⟨a, ns, k, rfl, _⟩ := h
    rfl
  · obtain ⟨a, ns, k, rfl, hS, hl, hk, hk2, hq⟩ := h
    refine ⟨_, (pss_cons (ps_set (i := 2) sc_pool.nd rfl (.inl rfl) (pe_op op_add (pe_op op_mul pe_int (pv 1)) pe_int))
 (pss_cons (ps_set (i := 3) sc_pool.nd rfl (.inl rfl) (pe_op op_add (pe_op op_mul pe_int (pv 1)) pe_int))
 (pss_cons (ps_if (pt_cmpR op_lt (pv 1) (pe_callB call_len_seq (by rfl) T.m_len (by decide +kernel) (pa_cons (pv 0) pa_nil)) (nomark _)) (pss_one (ps_set (i := 2) sc_pool.nd rfl (.inl rfl) (pe_ix ix_list (pv 0) (pv 1) (fun _ _ => rfl)))) pss_nil)
 (pss_cons (ps_if (pt_cmpR op_lt (pe_op op_add (pv 1) pe_int) (pe_callB call_len_seq (by rfl) T.m_len (by decide +kernel) (pa_cons (pv 0) pa_nil)) (nomark _)) (pss_one (ps_set (i := 3) sc_pool.nd rfl (.inl rfl) (pe_ix ix_list (pv 0) (pe_op op_add (pv 1) pe_int) (fun _ _ => rfl)))) pss_nil)
 (pss_one (ps_ret (pe_lst (pa_cons (pv 2) (pa_cons pe_int (pa_cons (pe_cmpR op_ge (pv 2) (pe_op op_pow pe_int pe_int) (nomark _)) (pa_cons (pv 3) pa_nil))))))))))), ?_⟩
    refine Z.w_start (σ' := [some (.ref a), some (.int k), none, none]) rfl ?_
    by_cases h1 : k < ns.length
    · obtain ⟨z1, a1, _⟩ := pick hk h1
      by_cases h2 : k + 1 < ns.length
      · obtain ⟨z2, a2, _⟩ := pick (by omega) h2
        walk_at "w"
        exact hq _ _ (by assumption) ⟨_, _, _, _, rfl⟩
      · walk_at "w"
        exact hq _ _ (by assumption) ⟨_, _, _, _, rfl⟩
    · walk_at "w"
      exact hq _ _ (by assumption) ⟨_, _, _, _, rfl⟩
end
end L

namespace M
open PySem PySem.Spec PyProof.Rows L2
/-- strictly ascending by absolute values -/
def Asc (ys : List Int) : Prop := ys.Pairwise fun i j => i.natAbs < j.natAbs
theorem asc_uniq : ∀ ys zs : List Int, Asc ys → Asc zs → (∀ x, x ∈ ys ↔ x ∈ zs) → ys = zs
  | [], [], _, _, _ => rfl
  | [], z :: zs, _, _, h => absurd ((h z).mpr List.mem_cons_self) (by simp)
  | y :: ys, [], _, _, h => absurd ((h y).mp List.mem_cons_self) (by simp)
  | y :: ys, z :: zs, hy, hz, h => by
    obtain ⟨hy1, hy2⟩ := List.pairwise_cons.mp hy
    obtain ⟨hz1, hz2⟩ := List.pairwise_cons.mp hz
    have e : y = z := by
      rcases List.mem_cons.mp ((h y).mp List.mem_cons_self) with e | m
      · exact e
      · rcases List.mem_cons.mp ((h z).mpr List.mem_cons_self) with e | m2
        · exact e.symm
        · have a := hz1 y m
          have b := hy1 z m2
          omega
    subst e
    have t : ys = zs := asc_uniq ys zs hy2 hz2 fun x => by
      constructor
      · intro m
        rcases List.mem_cons.mp ((h x).mp (List.mem_cons_of_mem _ m)) with e | m2
        · have := hy1 x m
          rw [e] at this
          omega
        · exact m2
      · intro m
        rcases List.mem_cons.mp ((h x).mpr (List.mem_cons_of_mem _ m)) with e | m2
        · have := hz1 x m
          rw [e] at this
          omega
        · exact m2
    rw [t]
def Clash (ls : List Int) : Prop := ∃ l ∈ ls, -l ∈ ls
/-- the clause of a list -/
def ClOf (ls ys : List Int) : Prop := Asc ys ∧ ∀ x, x ∈ ys ↔ x ∈ ls
/-- nondecreasing and without a clash and twins -/
theorem asc_of {ys : List Int} (h : ys.Pairwise fun i j => i.natAbs ≤ j.natAbs) (hn : ys.Nodup) (hc : ¬ Clash ys) : Asc ys := by
  unfold Asc
  have h2 := h.and hn
  refine List.Pairwise.imp_of_mem ?_ h2
  intro a b ha hb ⟨h1, h3⟩
  rcases Nat.lt_or_ge a.natAbs b.natAbs with h4 | h4
  · exact h4
  · exfalso
    have : a = b ∨ a = -b := by omega
    rcases this with e | e
    · exact h3 e
    · exact hc ⟨b, hb, by rw [← e]; exact ha⟩
/-- a dict of kept ints -/
def kd (ks : List Int) : List (Key × V) := ks.map fun k => (Sum.inl k, V.bl true)
theorem kd_get (ks : List Int) (x : Int) : (valV (kd ks) (Sum.inl x)).isSome = decide (x ∈ ks) := by
  rw [← valV_any]
  unfold kd
  rw [List.any_map]
  induction ks with
  | nil => rfl
  | cons k r ih =>
    rw [List.any_cons, ih]
    simp only [Function.comp, List.mem_cons]
    by_cases h : k = x
    · subst h; simp
    · have h' : ¬ (Sum.inl k : Key) = Sum.inl x := fun z => h (Sum.inl.inj z)
      have h'' : ¬ x = k := fun z => h z.symm
      simp [h', h'']
theorem kd_keys (ks : List Int) : (kd ks).map (·.1) = ks.map Sum.inl := by
  unfold kd
  rw [List.map_map]
  rfl
theorem kd_len (ks : List Int) : (kd ks).length = ks.length := by
  unfold kd
  rw [List.length_map]
theorem kd_put (ks : List Int) (x : Int) : putK (kd ks) (Sum.inl x) (.bl true) = kd (if x ∈ ks then ks else ks ++ [x]) := by
  by_cases h : x ∈ ks
  · rw [if_pos h]
    unfold putK
    have e : (valV (kd ks) (Sum.inl x)).isSome = true := by rw [kd_get]; exact decide_eq_true h
    rw [valV_any, if_pos e]
    unfold kd
    rw [List.map_map]
    refine List.map_congr_left fun k _ => ?_
    simp only [Function.comp]
    split <;> rfl
  · rw [if_neg h, putK_new]
    · unfold kd
      rw [List.map_append]
      rfl
    · have e : (valV (kd ks) (Sum.inl x)).isSome = false := by rw [kd_get]; exact decide_eq_false h
      exact Option.isNone_iff_eq_none.mp (by rw [← Option.not_isSome, e]; rfl)
theorem inV_int (x : Int) (ls : List Int) : inV (.int x) (ls.map V.int) = decide (x ∈ ls) := by
  unfold inV
  rw [List.any_map]
  induction ls with
  | nil => rfl
  | cons k r ih =>
    rw [List.any_cons, ih]
    have e : eqV (.int k) (.int x) = decide (k = x) := by
      first | rfl | simp [eqV]
    simp only [Function.comp, e, List.mem_cons]
    by_cases h : k = x
    · subst h; simp
    · have h'' : ¬ x = k := fun z => h z.symm
      simp [h, h'']
theorem flat_ints (ls : List Int) : (ls.map V.int).all flatV = true := by
  rw [List.all_map]
  exact List.all_eq_true.mpr fun _ _ => rfl
/-- what is kept so far: the taken ones, each once, without a clash -/
def KeptI (ls : List Int) (i : Nat) (ks : List Int) : Prop := ks.Nodup ∧ (∀ x, x ∈ ks ↔ x ∈ ls.take i) ∧ ¬ Clash ks ∧ ks.length ≤ i
theorem kept_zero (ls : List Int) : KeptI ls 0 [] := ⟨List.nodup_nil, fun x => by simp, fun ⟨_, h, _⟩ => by simp at h, Nat.le_refl _⟩
theorem kept_next {ls ks : List Int} {i : Nat} {l : Int} (h : KeptI ls i ks) (hl : ls[i]? = some l) (h0 : l ≠ 0) (hc : -l ∉ ks) : KeptI ls (i + 1) (if l ∈ ks then ks else ks ++ [l]) := by
  obtain ⟨h1, h2, h3, h4⟩ := h
  have ht : ls.take (i + 1) = ls.take i ++ [l] := by rw [List.take_add_one, hl]; rfl
  by_cases hm : l ∈ ks
  · rw [if_pos hm]
    refine ⟨h1, fun x => ?_, h3, by omega⟩
    rw [ht, List.mem_append, h2 x]
    constructor
    · exact fun z => .inl z
    · rintro (z | z)
      · exact z
      · rw [List.mem_singleton.mp z]
        exact (h2 l).mp hm
  · rw [if_neg hm]
    refine ⟨?_, fun x => by rw [ht, List.mem_append, List.mem_append, h2 x], ?_, by rw [List.length_append, List.length_singleton]; omega⟩
    · rw [List.nodup_append]
      refine ⟨h1, List.nodup_cons.mpr ⟨by simp, List.nodup_nil⟩, fun a ha b hb e => ?_⟩
      rw [List.mem_singleton.mp hb] at e
      exact hm (e ▸ ha)
    · rintro ⟨x, hx, hx2⟩
      rcases List.mem_append.mp hx with a | a <;> rcases List.mem_append.mp hx2 with b | b
      · exact h3 ⟨x, a, b⟩
      · have e := List.mem_singleton.mp b
        have : x = -l := by omega
        rw [this] at a
        exact hc a
      · rw [List.mem_singleton.mp a] at b
        exact hc b
      · have e1 := List.mem_singleton.mp a
        have e2 := List.mem_singleton.mp b
        omega
end M
namespace M
open PySem PySem.Spec PyProof.Rows L2
/-- the due so far, by the sizes that were looked at -/
def DueI (ls ns : List Int) (i : Nat) (D : List Int) : Prop := Asc D ∧ (∀ x, x ∈ D ↔ x ∈ ls ∧ (x.natAbs : Int) ∈ ns.take i) ∧ D.length ≤ i
theorem due_zero (ls ns : List Int) : DueI ls ns 0 [] := ⟨List.Pairwise.nil, fun x => by simp, Nat.le_refl _⟩
theorem due_next {ls ns D : List Int} {i : Nat} {s lit : Int} (h : DueI ls ns i D) (hs : ns.Pairwise (· ≤ ·)) (hi : ns[i]? = some s) (hn : ∀ x ∈ ls, -x ∉ ls) (hl : lit ∈ ls) (ha : (lit.natAbs : Int) = s) :
    DueI ls ns (i + 1) (if lit ∈ D then D else D ++ [lit]) := by
  obtain ⟨h1, h2, h3⟩ := h
  have ht : ns.take (i + 1) = ns.take i ++ [s] := by rw [List.take_add_one, hi]; rfl
  have one : ∀ x ∈ ls, (x.natAbs : Int) = s → x = lit := by
    intro x hx e
    have : x = lit ∨ x = -lit := by omega
    rcases this with e | e
    · exact e
    · rw [e] at hx
      exact absurd hx (hn lit hl)
  have mem : ∀ x, (x ∈ ls ∧ (x.natAbs : Int) ∈ ns.take (i + 1)) ↔ (x ∈ D ∨ x = lit) := by
    intro x
    rw [ht, List.mem_append, List.mem_singleton, h2 x]
    constructor
    · rintro ⟨a, b | b⟩
      · exact .inl ⟨a, b⟩
      · exact .inr (one x a b)
    · rintro (⟨a, b⟩ | b)
      · exact ⟨a, .inl b⟩
      · rw [b]
        exact ⟨hl, .inr ha⟩
  by_cases hm : lit ∈ D
  · rw [if_pos hm]
    refine ⟨h1, fun x => ?_, by omega⟩
    rw [mem]
    constructor
    · exact .inl
    · rintro (a | a)
      · exact a
      · rw [a]
        exact hm
  · rw [if_neg hm]
    refine ⟨?_, fun x => ?_, by rw [List.length_append, List.length_singleton]; omega⟩
    · unfold Asc
      rw [List.pairwise_append]
      refine ⟨h1, List.pairwise_singleton _ _, fun x hx y hy => ?_⟩
      rw [List.mem_singleton.mp hy]
      obtain ⟨a, b⟩ := (h2 x).mp hx
      have p := hs.sublist (List.take_sublist (i + 1) ns)
      rw [ht, List.pairwise_append] at p
      have le := p.2.2 _ b s (List.mem_singleton.mpr rfl)
      have ne : (x.natAbs : Int) ≠ s := by
        intro e
        exact hm ((one x a e) ▸ hx)
      omega
    · rw [mem, List.mem_append, List.mem_singleton]
theorem due_end {ls ns D : List Int} (h : DueI ls ns ns.length D) (hp : ns.Perm (ls.map fun l : Int => (l.natAbs : Int))) : ClOf ls D := by
  refine ⟨h.1, fun x => ?_⟩
  rw [h.2.1, List.take_length]
  constructor
  · exact fun z => z.1
  · exact fun z => ⟨z, hp.mem_iff.mpr (List.mem_map.mpr ⟨x, z, rfl⟩)⟩
end M

namespace L
open PySem PySem.Spec PyProof.Rows L2 Z DT
/-! heaps: what stays -/
/-- all but lists stay -/
def Mo (H H' : Hp) : Prop := ∀ b x, (∀ l, x ≠ HO.lst l) → H b = some x → H' b = some x
/-- all but lists and dicts stay -/
def Tu (H H' : Hp) : Prop := ∀ b x, (∀ l, x ≠ HO.lst l) → (∀ l, x ≠ HO.dK l) → H b = some x → H' b = some x
section
variable {H H' H1 H2 : Hp} {p q d : Addr} {o : HO}
theorem Mo.refl (H : Hp) : Mo H H := fun _ _ _ e => e
theorem Mo.trans (a : Mo H H1) (b : Mo H1 H2) : Mo H H2 := fun c x n e => b c x n (a c x n e)
theorem Mo.of (s : Same H H') : Mo H H' := fun b x _ e => s b x e
theorem Mo.new (m : Mo H H') (h : H' p = none) : Mo H (upd H' p o) := fun b x n e => by
  rw [upd_ne (ne_of_none (m b x n e) h)]
  exact m b x n e
theorem Mo.own (m : Mo H H') (h : H p = none) : Mo H (upd H' p o) := fun b x n e => by
  rw [upd_ne (ne_of_none e h)]
  exact m b x n e
theorem Mo.lst {l : List V} (m : Mo H H') (h : H p = some (.lst l)) : Mo H (upd H' p o) := fun b x n e => by
  rw [upd_ne (fun z => by subst z; rw [h] at e; exact n _ (Option.some.inj e).symm)]
  exact m b x n e
theorem Tu.of (m : Mo H H') : Tu H H' := fun b x n _ e => m b x n e
theorem Tu.ofS (m : Same H H') : Tu H H' := fun b x _ _ e => m b x e
theorem Tu.trans (a : Tu H H1) (b : Tu H1 H2) : Tu H H2 := fun c x n n2 e => b c x n n2 (a c x n n2 e)
theorem Tu.dict {kvs : List (Key × V)} (h : H d = some (.dK kvs)) : Tu H (upd H d o) := fun b x n n2 e => by
  rw [upd_ne (fun z => by subst z; rw [h] at e; exact n2 _ (Option.some.inj e).symm)]
  exact e
def PoolAt (H : Hp) (q : Addr) : Prop := ∃ o, H q = some o ∧ IsPool o
structure PX (q : Addr) (H H' : Hp) : Prop where
  mo : Mo H H'
  pl : PoolAt H' q
  sx : ∀ b x, b ≠ q → H b = some x → H' b = some x
theorem PX.trans (a : PX q H H1) (b : PX q H1 H2) : PX q H H2 := ⟨a.1.trans b.1, b.2, fun c x n e => b.3 c x n (a.3 c x n e)⟩
theorem PoolAt.same (h : PoolAt H q) (s : Same H H') : PoolAt H' q := by
  obtain ⟨o, h1, h2⟩ := h
  exact ⟨o, s _ _ h1, h2⟩
theorem PX.same (a : PX q H H1) (b : Same H1 H2) : PX q H H2 := ⟨a.1.trans (.of b), a.2.same b, fun c x n e => b c x (a.3 c x n e)⟩
theorem PX.refl (h : PoolAt H q) : PX q H H := ⟨.refl H, h, fun _ _ _ e => e⟩
theorem PX.new (a : PX q H H1) (h : H1 p = none) : PX q H (upd H1 p o) := a.same (same_of (Same.refl _) h)
theorem PX.take (h : PoolAt H q) (hp : IsPool o) : PX q H (upd H q o) := by
  obtain ⟨o', h1, c, k, b, s, rfl⟩ := h
  exact ⟨(Mo.refl H).lst h1, ⟨o, upd_same, hp⟩, fun b x n e => by rw [upd_ne n]; exact e⟩
theorem PX.dict (a : PX q H H1) {kvs : List (Key × V)} {o2 : HO} (h : H d = none) (h1 : H1 d = some (.dK kvs)) (e : o2 = o2) : PX q H (upd H1 d o2) := by
  refine ⟨a.1.own h, ?_, fun b x n e => by rw [upd_ne (ne_of_none e h)]; exact a.3 b x n e⟩
  obtain ⟨o', h2, hp⟩ := a.2
  refine ⟨o', ?_, hp⟩
  rw [upd_ne]
  · exact h2
  · rintro rfl
    rw [h2] at h1
    obtain ⟨c, k, b, s, rfl⟩ := hp
    cases h1
theorem PX.own (h : H q = none) (a : PX q (upd H q o) H') : Same H H' := fun b x e => a.3 b x (ne_of_none e h) (by rw [upd_ne (ne_of_none e h)]; exact e)
end
section
variable {K : PySem.W.Frag} {H H' : Hp}
theorem sqT_tu {a : Addr} {xs : List V} (h : SqT K H a xs) (s : Tu H H') : SqT K H' a xs := by
  rcases h with (h | ⟨o, h⟩) | h
  · exact .inl (.inl (s _ _ (fun l e => by cases e) (fun l e => by cases e) h))
  · exact .inl (.inr ⟨o, s _ _ (fun l e => by cases e) (fun l e => by cases e) h⟩)
  · exact .inr h
theorem w_tdget {td ty : TE} {σ : L2.St} {Q : VK} (h : td σ H fun x H1 => ty σ H1 fun y H2 => ∃ a v, x = .ref a ∧ DGet H2 a y (some v) ∧ Q v H2) : tDGet td ty σ H Q := h
theorem w_tdget2 {td ty tx : TE} {σ : L2.St} {Q : VK} (h : td σ H fun x H1 => ∃ a, x = .ref a ∧ IsD H1 a ∧ ty σ H1 fun y H2 => tx σ H2 fun z H3 => ∃ o, DGet H3 a y o ∧ Q (o.getD z) H3) : tDGet2 td ty tx σ H Q := h
theorem seqIf {tt : TT} {t t' u : TS} {D : Ends} {σ : L2.St} (k : L2.St → Hp → Prop) (h : ∀ R : L2.St → Hp → Prop, (∀ σ' H', k σ' H' → R σ' H') → tIfS tt t t' { D with nx := R } σ H) (hk : ∀ σ' H', k σ' H' → u D σ' H') : tSeq (tIfS tt t t') u D σ H := h (u D) hk
theorem seqAnd {ta tb : TE} {g : TG} {u : TS} {D : Ends} {σ : L2.St} (k : V → Hp → Prop) (h : ∀ Q : VK, (∀ x H1, k x H1 → Q x H1) → tAndV ta tb σ H Q) (hk : ∀ x H1, k x H1 → g x σ H1 (u D)) : tSeq (tAsg (tAndV ta tb) g) u D σ H := h _ hk
end
end L
namespace L
open PySem PySem.Spec PyProof.Rows L2 Z DT
theorem PX.refl' {q : Addr} {H H' : Hp} (h : PX q H H') : PoolAt H' q := h.2
section
variable {P : Program} {w : World} {K : PySem.W.Frag} {mg : Str → Option Value} {base : Heap}
theorem tyx_T {H : Hp} {a : Addr} {xs : List V} (h : SqT K H a xs) : TyX K H (.ref a) (.type "tuple") := by
  rcases h with (h | ⟨o, h⟩) | ⟨o, its, n, h, c, _⟩
  · exact .base (.tup h)
  · exact .fTuple h
  · exact .kTuple h c
theorem w_isiT_T {H : Hp} {p : Addr} {xs : List V} {Q : VK} (h : SqT K H p xs) (q : Q (.bl true) H) : rIsi K [.ref p, .ty "tuple"] H Q := w_isi (.ty _) (tyx_T h) (kit_ty (by decide +kernel)) q
theorem use_takeP {q : Addr} {n : Int} {H : Hp} {Q : VK} {E : XK} (h : PoolAt H q) (h1 : 0 < n) (h2 : n < 1073741824) (hq : ∀ r H', PX q H H' → 0 ≤ r → r < n → Q (.int r) H') : spTake [.ref q, .int n] H Q E := by
  obtain ⟨o, ho, hp⟩ := id h
  exact ⟨q, o, n, rfl, ho, hp, h1, h2, fun r o' a b c => hq r _ (.take h c) a b⟩
end
end L

namespace L
open PySem PySem.Spec PyProof.Rows L2 Z M
section
variable {P : Program} {w : World} {K : PySem.W.Frag} {mg : Str → Option Value} {base : Heap}
theorem w_fldT {C o dx : Addr} {f : Str} {v : V} {fs : List (Str × V)} {σ : L2.St} {H : Hp} {Q : VK} (hc : Cls K C) (hn : NoAttr K C f) (h1 : H o = some (.ins C dx fs)) (hl : fs.lookup f = some v) (q : Q v H) : tFld K (tVar 0) f (some (.ref o) :: σ) H Q :=
  Z.w_var (v := V.ref o) rfl ⟨o, C, dx, _, _, rfl, h1, hc, hn, hl, q⟩
theorem abs_nat (i : Int) : (if i < 0 then -i else i) = (i.natAbs : Int) := by split <;> omega
theorem w_meth0 {C o dx : Addr} {m : Str} {sp : Sp} {E : XK} {t : TA} {i : Nat} {fs : List (Str × V)} {σ : L2.St} {H : Hp} {Q : VK} (h1 : H o = some (.ins C dx fs)) (hσ : σ[i]? = some (some (.ref o))) (hm : fs.lookup m = none) (q : t σ H fun vs H2 => sp (.ref o :: (vs ++ [])) H2 Q E) : tMeth C m sp [] E (tVar i) t σ H Q :=
  Z.w_var hσ ⟨o, dx, _, rfl, h1, hm, q⟩
theorem w_tdget1 {td ty : TE} {σ : L2.St} {H : Hp} {Q : VK} (h : td σ H fun x H1 => ∃ a, x = .ref a ∧ IsD H1 a ∧ ty σ H1 fun y H2 => ∃ o, DGet H2 a y o ∧ Q (o.getD .non) H2) : tDGet1 td ty σ H Q := h
theorem ne_ins {H : Hp} {o b C dx : Addr} {fs : List (Str × V)} {u : HO} (h1 : H o = some (.ins C dx fs)) (h2 : H b = some u) (h : ∀ C dx fs, u ≠ .ins C dx fs) : o ≠ b := fun e => by
  subst e
  rw [h1] at h2
  exact h _ _ _ (Option.some.inj h2).symm
theorem ne_ld {H : Hp} {a b : Addr} {xs : List V} {kvs : List (Key × V)} (h1 : H a = some (.lst xs)) (h2 : H b = some (.dK kvs)) : a ≠ b := fun e => by
  subst e
  rw [h1] at h2
  cases h2
theorem w_fldaug {ta tv : TE} {rd : V → V → Hp → VK → Prop} {f : Str} {D : Ends} {σ : L2.St} {H : Hp} (h : ta σ H fun x H1 => ∃ a C dx fs v, x = .ref a ∧ H1 a = some (.ins C dx fs) ∧ Cls K C ∧ NoAttr K C f ∧ fs.lookup f = some v ∧
  tv σ H1 fun y H2 => rd v y H2 fun z H3 => ∃ dx' fs', H3 a = some (.ins C dx' fs') ∧ fs'.length < 1000 ∧ D.nx σ (upd H3 a (.ins C dx' (putF f z fs')))) : sFldAug K ta tv rd f D σ H := h
theorem lst_eq {H : Hp} {a : Addr} {xs ys : List V} (h : H a = some (.lst xs)) (e : xs = ys) : H a = some (.lst ys) := e ▸ h
theorem dK_eq {H : Hp} {a : Addr} {xs ys : List (Key × V)} (h : H a = some (.dK xs)) (e : xs = ys) : H a = some (.dK ys) := e ▸ h
theorem upd_self {H : Hp} {a : Addr} {o : HO} (h : H a = some o) : upd H a o = H := by
  funext b
  by_cases e : b = a
  · rw [e, upd_same, h]
  · rw [upd_ne e]
theorem fresh_of1 {H H' : Hp} {p : Addr} (s : Same H H') (h : H' p = none) : H p = none := by
  cases e : H p with
  | none => rfl
  | some o => rw [s _ _ e] at h; cases h
theorem cut_from {xs : List V} {s : Nat} (h : s ≤ xs.length) : cutV xs (some (s : Int)) none = xs.drop s := by
  unfold cutV
  rw [HT.sIx_nat, HT.sIx_none, Nat.min_eq_left h, List.take_of_length_le (by rw [List.length_drop]; exact Nat.le_refl _)]
theorem cut_to {xs : List V} {s : Nat} (h : s ≤ xs.length) : cutV xs none (some (s : Int)) = xs.take s := by
  unfold cutV
  rw [HT.sIx_nat, HT.sIx_none, Nat.min_eq_left h, List.drop_zero, Nat.sub_zero]
theorem w_slice {r : V → Option Int → Option Int → Hp → VK → Prop} {te : TE} {tl th : TO} {σ : L2.St} {H : Hp} {Q : VK} (h : te σ H fun x H1 => tl σ H1 fun l H2 => th σ H2 fun u H3 => r x l u H3 Q) : L2.tSl r te tl th σ H Q := h
theorem w_nopart {σ : L2.St} {H : Hp} {R : Option Int → Hp → Prop} (h : R none H) : tNoPart σ H R := h
theorem w_part {t : TE} {σ : L2.St} {H : Hp} {R : Option Int → Hp → Prop} (h : t σ H fun x H1 => ∃ i, x = .int i ∧ R (some i) H1) : tPart t σ H R := h
theorem w_slFrom {a : Addr} {xs : List V} {s : Nat} {H : Hp} {Q : VK} (h : SqL K H a xs) (hs : s ≤ xs.length) (q : ∀ p, H p = none → Q (.ref p) (upd H p (.lst (xs.drop s)))) : rSlL K (.ref a) (some (s : Int)) none H Q :=
  ⟨a, xs, rfl, h, fun p hp => by rw [cut_from hs]; exact q p hp⟩
theorem w_slTo {a : Addr} {xs : List V} {s : Nat} {H : Hp} {Q : VK} (h : SqL K H a xs) (hs : s ≤ xs.length) (q : ∀ p, H p = none → Q (.ref p) (upd H p (.lst (xs.take s)))) : rSlL K (.ref a) none (some (s : Int)) H Q :=
  ⟨a, xs, rfl, h, fun p hp => by rw [cut_to hs]; exact q p hp⟩
theorem w_ddel {td ty : TE} {D : Ends} {σ : L2.St} {H : Hp} (h : td σ H fun x H1 => ty σ H1 fun y H2 => ∃ a kvs k, x = .ref a ∧ H2 a = some (.dK kvs) ∧ y = kV k ∧ (valV kvs k).isSome = true ∧ D.nx σ (upd H2 a (.dK (dropK kvs k)))) : sDDel td ty D σ H := h
structure InitSt (H0 Hc : Hp) (o C dx : Addr) (fs : List (Str × V)) (os : List (Addr × HO)) : Prop where
  sm : Same H0 Hc
  ob : Hc o = some (.ins C dx fs)
  all : ∀ p ∈ os, Hc p.1 = some p.2 ∧ H0 p.1 = none ∧ p.1 ≠ o
  nd : (os.map (·.1)).Nodup
theorem InitSt.step {H0 Hc : Hp} {o C dx l : Addr} {u : HO} {fs fs' : List (Str × V)} {os : List (Addr × HO)} (h : InitSt H0 Hc o C dx fs os) (h0 : H0 o = none) (hl : Hc l = none) : InitSt H0 (upd (upd Hc l u) o (.ins C dx fs')) o C dx fs' (os ++ [(l, u)]) := by
  have nl : l ≠ o := fun e => by subst e; rw [h.ob] at hl; cases hl
  have fl := fresh_of1 h.sm hl
  refine ⟨same_mut (same_of h.sm hl) h0, upd_same, fun p hp => ?_, ?_⟩
  · rcases List.mem_append.mp hp with m | m
    · obtain ⟨g1, g2, g3⟩ := h.all p m
      exact ⟨by rw [upd_ne g3]; exact upd_of hl g1, g2, g3⟩
    · obtain rfl := List.mem_singleton.mp m
      exact ⟨by rw [upd_ne nl, upd_same], fl, nl⟩
  · rw [List.map_append, List.nodup_append]
    refine ⟨h.nd, by simp, fun a ha b hb e => ?_⟩
    obtain rfl : b = l := by simpa using hb
    subst e
    obtain ⟨p, hp, rfl⟩ := List.mem_map.mp ha
    rw [(h.all p hp).1] at hl
    cases hl
theorem w_fld {ta tv : TE} {f : Str} {D : Ends} {σ : L2.St} {H : Hp} (h : tv σ H fun y H1 => ta σ H1 fun x H2 => ∃ a C dx fs, x = .ref a ∧ H2 a = some (.ins C dx fs) ∧ Cls K C ∧ NoAttr K C f ∧ fs.length < 1000 ∧ D.nx σ (upd H2 a (.ins C dx (putF f y fs)))) : sFld K ta tv f D σ H := h
theorem putF_new {f : Str} {v : V} : ∀ {fs : List (Str × V)}, f ∉ fs.map (·.1) → putF f v fs = fs ++ [(f, v)]
  | [], _ => rfl
  | (g, x) :: r, h => by
    rw [List.map_cons, List.mem_cons, not_or] at h
    show (if g = f then _ else _) = _
    rw [if_neg (fun e => h.1 e.symm), putF_new h.2]
    rfl
theorem w_initL {C o dx : Addr} {f : Str} {D : Ends} {σ : L2.St} {H0 H : Hp} {fs : List (Str × V)} {os : List (Addr × HO)} (h : InitSt H0 H o C dx fs os) (h0 : H0 o = none) (hc : Cls K C) (hn : NoAttr K C f) (nm : List Str) (e : fs.map (·.1) = nm) (hf : f ∉ nm) (hl : fs.length < 1000) (q : ∀ l H', InitSt H0 H' o C dx (fs ++ [(f, .ref l)]) (os ++ [(l, .lst [])]) → D.nx (some (.ref o) :: σ) H') : sFld K (tVar 0) (tLst tNil) f D (some (.ref o) :: σ) H := by
  refine w_fld (Z.w_lst (Z.w_nil ⟨Nat.zero_le _, fun l hl' => Z.w_var (v := V.ref o) rfl ⟨o, C, dx, fs, rfl, upd_of hl' h.ob, hc, hn, hl, by rw [putF_new (by rw [e]; exact hf)]; exact q l _ (h.step h0 hl')⟩⟩))
theorem w_initD {C o dx : Addr} {f : Str} {D : Ends} {σ : L2.St} {H0 H : Hp} {fs : List (Str × V)} {os : List (Addr × HO)} (h : InitSt H0 H o C dx fs os) (h0 : H0 o = none) (hc : Cls K C) (hn : NoAttr K C f) (nm : List Str) (e : fs.map (·.1) = nm) (hf : f ∉ nm) (hl : fs.length < 1000) (q : ∀ l H', InitSt H0 H' o C dx (fs ++ [(f, .ref l)]) (os ++ [(l, .dK [])]) → D.nx (some (.ref o) :: σ) H') : sFld K (tVar 0) tDNewK f D (some (.ref o) :: σ) H := by
  refine w_fld (Z.w_dnew fun l hl' => Z.w_var (v := V.ref o) rfl ⟨o, C, dx, fs, rfl, upd_of hl' h.ob, hc, hn, hl, by rw [putF_new (by rw [e]; exact hf)]; exact q l _ (h.step h0 hl')⟩)
theorem w_initC {C o dx : Addr} {f : Str} {v : V} {D : Ends} {σ : L2.St} {H0 H : Hp} {fs : List (Str × V)} {os : List (Addr × HO)} (h : InitSt H0 H o C dx fs os) (h0 : H0 o = none) (hc : Cls K C) (hn : NoAttr K C f) (nm : List Str) (e : fs.map (·.1) = nm) (hf : f ∉ nm) (hl : fs.length < 1000) (q : ∀ H', InitSt H0 H' o C dx (fs ++ [(f, v)]) os → D.nx (some (.ref o) :: σ) H') : sFld K (tVar 0) (tC v) f D (some (.ref o) :: σ) H :=
  w_fld (Z.w_c (Z.w_var (v := V.ref o) rfl ⟨o, C, dx, fs, rfl, h.ob, hc, hn, hl, by rw [putF_new (by rw [e]; exact hf)]; exact q _ ⟨same_mut h.sm h0, upd_same, fun p hp => by
    obtain ⟨g1, g2, g3⟩ := h.all p hp
    exact ⟨by rw [upd_ne g3]; exact g1, g2, g3⟩, h.nd⟩⟩))
theorem putF_nil (f : Str) (v : V) : putF f v [] = [(f, v)] := rfl
theorem fresh_px {q p : Addr} {H H' : Hp} (s : PX q H H') (hq : PoolAt H q) (h : H' p = none) : H p = none := by
  cases e : H p with
  | none => rfl
  | some o =>
    by_cases n : p = q
    · subst n
      obtain ⟨o', h', _⟩ := s.pl
      rw [h'] at h
      cases h
    · rw [s.sx _ _ n e] at h
      cases h
theorem lst_len {ns : List Int} : (ns.map V.int).length = ns.length := List.length_map _
theorem w_make {C : Addr} {sp : Sp} {dvs : List V} {E : XK} {t : TA} {σ : L2.St} {H : Hp} {Q : VK} (h : t σ H fun vs H1 => ∀ x dx, H1 x = none → H1 dx = none → dx ≠ x → sp (.ref x :: (vs ++ dvs)) (upd (upd H1 dx (.own x)) x (.ins C dx [])) (fun v H2 => v = .non ∧ Q (.ref x) H2) E) : tMake C sp dvs E t σ H Q := h
/-- tuples stay -/
def TupS (H H' : Hp) : Prop := ∀ b xs, H b = some (.tup xs) → H' b = some (.tup xs)
theorem TupS.ofM {H H' : Hp} (h : Mo H H') : TupS H H' := fun b xs e => h b _ (fun l z => by cases z) e
theorem TupS.of {H H' : Hp} (h : Same H H') : TupS H H' := fun b xs e => h b _ e
theorem TupS.trans {H H1 H2 : Hp} (a : TupS H H1) (b : TupS H1 H2) : TupS H H2 := fun c xs e => b c xs (a c xs e)
theorem tup_pool {q b : Addr} {xs : List V} {H : Hp} (h : PoolAt H q) (hb : H b = some (.tup xs)) : b ≠ q := by
  rintro rfl
  obtain ⟨o, h1, c, k, d, e, rfl⟩ := h
  rw [h1] at hb
  cases hb
theorem w_dsetd {td ty tx : TE} {σ : L2.St} {H : Hp} {Q : VK} (h : td σ H fun x H1 => ∃ a, x = .ref a ∧ IsD H1 a ∧ ty σ H1 fun y H2 => tx σ H2 fun z H3 => ∃ (kvs : List (Key × V)) (k : Key), H3 a = some (.dK kvs) ∧ y = kV k ∧ kvs.length < sizeLine ∧ (∀ v, valV kvs k = some v → Q v H3) ∧ (valV kvs k = none → Q z (upd H3 a (.dK (putK kvs k z))))) : tDSetd td ty tx σ H Q := h
end
end L

namespace L
open PySem PySem.Spec PyProof.Rows L2 Z M
/-! all but the addresses of S stays -/
def Ch (S : List Addr) (H H' : Hp) : Prop := ∀ b x, b ∉ S → H b = some x → H' b = some x
def NoTup (S : List Addr) (H : Hp) : Prop := ∀ b ∈ S, ∀ ys, H b ≠ some (.tup ys)
theorem Ch.refl (S : List Addr) (H : Hp) : Ch S H H := fun _ _ _ e => e
theorem Ch.of {S : List Addr} {H H' : Hp} (s : Same H H') : Ch S H H' := fun b x _ e => s b x e
theorem Ch.trans {S : List Addr} {H H1 H2 : Hp} (a : Ch S H H1) (b : Ch S H1 H2) : Ch S H H2 := fun c x n e => b c x n (a c x n e)
theorem Ch.sup {S S' : List Addr} {H H1 : Hp} (a : Ch S H H1) (h : ∀ b ∈ S, b ∈ S') : Ch S' H H1 := fun c x n e => a c x (fun z => n (h c z)) e
theorem Ch.put {S : List Addr} {H H1 : Hp} (a : Ch S H H1) {b : Addr} {u : HO} (hb : b ∈ S) : Ch S H (upd H1 b u) := fun c x n e => by rw [upd_ne (fun z => n (by rw [z]; exact hb))]; exact a c x n e
theorem Ch.new {S : List Addr} {H H1 : Hp} (a : Ch S H H1) {p : Addr} {u : HO} (hp : H1 p = none) : Ch S H (upd H1 p u) := fun c x n e => upd_of hp (a c x n e)
theorem Ch.own {S : List Addr} {H H1 : Hp} (a : Ch S H H1) {p : Addr} {u : HO} (hp : H p = none) : Ch S H (upd H1 p u) := fun c x n e => by rw [upd_ne (ne_of_none e hp)]; exact a c x n e
theorem Ch.tup {S : List Addr} {H H1 : Hp} (a : Ch S H H1) (m : NoTup S H) {b : Addr} {ys : List V} (e : H b = some (.tup ys)) : H1 b = some (.tup ys) := a b _ (fun z => m b z ys e) e
theorem Ch.px {S : List Addr} {q : Addr} {H H1 : Hp} (h : PX q H H1) (hq : q ∈ S) : Ch S H H1 := fun b x n e => h.3 b x (fun z => n (z ▸ hq)) e
/-! the object of the signature: its sorts, its functions with their arguments and results -/
structure SgO where
  dx : Addr
  ds : Addr
  df : Addr
def SgO.fs (t : SgO) : List (Str × V) := [("_sorts", .ref t.ds), ("_functions", .ref t.df)]
abbrev FnRow := Str × List Str × Str
/-- what the dict of functions holds at a name -/
def FnV (H : Hp) (o : Option V) (r : Option (List Str × Str)) : Prop := match r with
  | none => o = none
  | some (as, x) => ∃ p a, o = some (.ref p) ∧ H p = some (.tup [.ref a, .str x]) ∧ H a = some (.tup (as.map V.str))
structure SigAt (C : Addr) (H : Hp) (o : Addr) (t : SgO) (ss : List Str) (fs : List FnRow) : Prop where
  obj : H o = some (.ins C t.dx t.fs)
  ne : t.ds ≠ t.df
  so : ∃ ks, H t.ds = some (.dK ks) ∧ (∀ x : Str, (valV ks (Sum.inr x)).isSome = decide (x ∈ ss)) ∧ ks.length ≤ ss.length
  fu : ∃ kf, H t.df = some (.dK kf) ∧ (∀ x : Str, FnV H (valV kf (Sum.inr x)) (fs.lookup x)) ∧ kf.length ≤ fs.length
theorem FnV.some_eq {H : Hp} {o : Option V} {r : Option (List Str × Str)} (h : FnV H o r) : o.isSome = r.isSome := by
  cases r with
  | none => rw [show o = none from h]; rfl
  | some q =>
    obtain ⟨p, a, e, _⟩ := h
    rw [e]
    rfl
theorem FnV.same {H H' : Hp} {o : Option V} {r : Option (List Str × Str)} (h : FnV H o r) (s : ∀ b ys, H b = some (.tup ys) → H' b = some (.tup ys)) : FnV H' o r := by
  cases r with
  | none => exact h
  | some q =>
    obtain ⟨p, a, e, e1, e2⟩ := h
    exact ⟨p, a, e, s _ _ e1, s _ _ e2⟩
theorem SigAt.same {C : Addr} {H H' : Hp} {o : Addr} {t : SgO} {ss : List Str} {fs : List FnRow} (h : SigAt C H o t ss fs) (s : Same H H') : SigAt C H' o t ss fs := by
  obtain ⟨ks, h1, h2⟩ := h.so
  obtain ⟨kf, h3, h4, h5⟩ := h.fu
  exact ⟨s _ _ h.obj, h.ne, ⟨ks, s _ _ h1, h2⟩, kf, s _ _ h3, fun x => (h4 x).same fun b ys e => s _ _ e, h5⟩
theorem SigAt.ch {C : Addr} {S : List Addr} {H H' : Hp} {o : Addr} {t : SgO} {ss : List Str} {fs : List FnRow} (h : SigAt C H o t ss fs) (s : Ch S H H') (m : NoTup S H) (n : ∀ b ∈ S, b ≠ o ∧ b ≠ t.ds ∧ b ≠ t.df) : SigAt C H' o t ss fs := by
  obtain ⟨ks, h1, h2⟩ := h.so
  obtain ⟨kf, h3, h4, h5⟩ := h.fu
  exact ⟨s _ _ (fun z => (n _ z).1 rfl) h.obj, h.ne, ⟨ks, s _ _ (fun z => (n _ z).2.1 rfl) h1, h2⟩, kf, s _ _ (fun z => (n _ z).2.2 rfl) h3, fun x => (h4 x).same fun b ys e => s.tup m e, h5⟩
end L

namespace L
open PySem PySem.Spec PyProof.Rows L2 Z M
section
variable {P : Program} {w : World} {K : PySem.W.Frag} {mg : Str → Option Value} {base : Heap}
def spKnF (C : Addr) : Sp := fun vs H Q _ => ∃ (o : Addr) (t : SgO) (ss : List Str) (fs : List FnRow) (x : Str), vs = [.ref o, .str x] ∧ SigAt C H o t ss fs ∧ Q (.bl (fs.lookup x).isSome) H
theorem ok_knowsF (T : Txt K mg) : FnOk P w K mg base CX0 1 T.f_Signature_knows_function T.fd_Signature_knows_function ["self", "name"] (spKnF T.C_Signature) := by
  refine T.F_Signature_knows_function.ok sc_Signature_knows_function (fun vs H Q E h => ?_) (fun cdv A outer s H vs Q E hr h => ?_)
  · obtain ⟨o, t, ss, fs, x, rfl, _⟩ := h
    rfl
  · obtain ⟨o, t, ss, fs, x, rfl, sg, h⟩ := h
    obtain ⟨kf, hf, hv, _⟩ := sg.fu
    refine ⟨_, (pss_one (ps_ret (pe_cmp (pc_din (hu_of hr) (pv 1) (pe_fld (pv 0) rfl))))), ?_⟩
    refine Z.w_start (σ' := [some (.ref o), some (.str x)]) rfl ?_
    walk_at "w"
    refine w_fldT T.cl_Signature T.n_Signature__functions sg.obj rfl ?_
    refine ⟨t.df, _, rfl, DGet.k (k := Sum.inr x) hf, ?_⟩
    rw [(hv x).some_eq]
    walk_at "w"
    exact h
/-- a name that is declared -/
def spFun (C : Addr) : Sp := fun vs H Q _ => ∃ (o : Addr) (t : SgO) (ss : List Str) (fs : List FnRow) (x : Str) (as : List Str) (r : Str), vs = [.ref o, .str x] ∧ SigAt C H o t ss fs ∧ fs.lookup x = some (as, r) ∧ ∀ p a, H p = some (.tup [.ref a, .str r]) → H a = some (.tup (as.map V.str)) → Q (.ref p) H
theorem ok_fun (T : Txt K mg) : FnOk P w K mg base CX0 1 T.f_Signature_function T.fd_Signature_function ["self", "name"] (spFun T.C_Signature) := by
  refine T.F_Signature_function.ok sc_Signature_function (fun vs H Q E h => ?_) (fun cdv A outer s H vs Q E hr h => ?_)
  · obtain ⟨o, t, ss, fs, x, as, r, rfl, _⟩ := h
    rfl
  · obtain ⟨o, t, ss, fs, x, as, r, rfl, sg, hl, h⟩ := h
    obtain ⟨kf, hf, hv, _⟩ := sg.fu
    have hx := hv x
    rw [hl] at hx
    obtain ⟨p, a, e, e1, e2⟩ := hx
    have g := DGet.k (k := Sum.inr x) hf
    rw [e] at g
    refine ⟨_, (pss_cons (ps_if (pt_cmp (pc_dnotin (hu_of hr) (pv 1) (pe_fld (pv 0) rfl))) (pss_one ps_never) pss_nil)
 (pss_one (ps_ret (pe_dget (hu_of hr) (pe_fld (pv 0) rfl) (pv 1) (fun _ _ => rfl))))), ?_⟩
    refine Z.w_start (σ' := [some (.ref o), some (.str x)]) rfl ?_
    walk_at "w"
    refine w_fldT T.cl_Signature T.n_Signature__functions sg.obj rfl ?_
    refine ⟨t.df, _, rfl, g, ?_⟩
    refine ⟨false, rfl, ?_⟩
    rw [if_neg (by decide)]
    walk_at "w"
    refine w_fldT T.cl_Signature T.n_Signature__functions sg.obj rfl ?_
    walk_at "w"
    refine ⟨t.df, _, rfl, g, ?_⟩
    exact h p a e1 e2
def spArgs (C : Addr) : Sp := fun vs H Q _ => ∃ (o : Addr) (t : SgO) (ss : List Str) (fs : List FnRow) (x : Str) (as : List Str) (r : Str), vs = [.ref o, .str x] ∧ SigAt C H o t ss fs ∧ fs.lookup x = some (as, r) ∧ ∀ a, H a = some (.tup (as.map V.str)) → Q (.ref a) H
theorem ok_args (T : Txt K mg) : FnOk P w K mg base CX0 2 T.f_Signature_arguments_of T.fd_Signature_arguments_of ["self", "name"] (spArgs T.C_Signature) := by
  have G_Signature_function := ok_fun (P := P) (w := w) (base := base) T
  refine T.F_Signature_arguments_of.ok sc_Signature_arguments_of (fun vs H Q E h => ?_) (fun cdv A outer s H vs Q E hr h => ?_)
  · obtain ⟨o, t, ss, fs, x, as, r, rfl, _⟩ := h
    rfl
  · obtain ⟨o, t, ss, fs, x, as, r, rfl, sg, hl, h⟩ := h
    refine ⟨_, (pss_one (ps_ret (pe_ix ix_tup (pe_meth (pv 0) T.cl_Signature T.M_Signature_function G_Signature_function (hr.mono (by first | decide | omega)) T.b_Signature_function .nil pass0 (pa_cons (pv 1) pa_nil)) pe_int (fun _ _ => rfl)))), ?_⟩
    refine Z.w_start (σ' := [some (.ref o), some (.str x)]) rfl ?_
    walk_at "w"
    refine w_meth0 sg.obj rfl (by rfl) ?_
    walk_at "w"
    refine ⟨o, t, ss, fs, x, as, r, rfl, sg, hl, fun p a e1 e2 => ?_⟩
    walk_at "w"
    exact h a e2
def spRes (C : Addr) : Sp := fun vs H Q _ => ∃ (o : Addr) (t : SgO) (ss : List Str) (fs : List FnRow) (x : Str) (as : List Str) (r : Str), vs = [.ref o, .str x] ∧ SigAt C H o t ss fs ∧ fs.lookup x = some (as, r) ∧ Q (.str r) H
theorem ok_res (T : Txt K mg) : FnOk P w K mg base CX0 2 T.f_Signature_result_of T.fd_Signature_result_of ["self", "name"] (spRes T.C_Signature) := by
  have G_Signature_function := ok_fun (P := P) (w := w) (base := base) T
  refine T.F_Signature_result_of.ok sc_Signature_result_of (fun vs H Q E h => ?_) (fun cdv A outer s H vs Q E hr h => ?_)
  · obtain ⟨o, t, ss, fs, x, as, r, rfl, _⟩ := h
    rfl
  · obtain ⟨o, t, ss, fs, x, as, r, rfl, sg, hl, h⟩ := h
    refine ⟨_, (pss_one (ps_ret (pe_ix ix_tup (pe_meth (pv 0) T.cl_Signature T.M_Signature_function G_Signature_function (hr.mono (by first | decide | omega)) T.b_Signature_function .nil pass0 (pa_cons (pv 1) pa_nil)) pe_int (fun _ _ => rfl)))), ?_⟩
    refine Z.w_start (σ' := [some (.ref o), some (.str x)]) rfl ?_
    walk_at "w"
    refine w_meth0 sg.obj rfl (by rfl) ?_
    walk_at "w"
    refine ⟨o, t, ss, fs, x, as, r, rfl, sg, hl, fun p a e1 e2 => ?_⟩
    walk_at "w"
    exact h
end
end L

namespace L
open PySem PySem.Spec PyProof.Rows L2 Z M
/-! the object of the bank: its nodes (keys, sorts) in their order -/
structure BkO where
  dx : Addr
  sg : Addr
  ln : Addr
  ls : Addr
  dn : Addr
def BkO.fs (t : BkO) : List (Str × V) := [("signature", .ref t.sg), ("_nodes", .ref t.ln), ("_sorts", .ref t.ls), ("_numbers", .ref t.dn)]
abbrev BRow := NestedKey × Str
/-- the number of a node: its place, from one -/
def numOf (rs : List BRow) (k : NestedKey) : Option V := ((rs.map (·.1)).idxOf? k).map fun i => V.int ((i : Int) + 1)
structure BkAt (P : Program) (w : World) (CB : Addr) (H : Hp) (o : Addr) (t : BkO) (us : List Addr) (rs : List BRow) : Prop where
  obj : H o = some (.ins CB t.dx t.fs)
  ne : t.ln ≠ t.ls
  ln : H t.ln = some (.lst (us.map V.ref))
  ls : H t.ls = some (.lst (rs.map fun r => V.str r.2))
  len : us.length = rs.length
  nk : ∀ (i : Nat) (r : BRow) (a : Addr), rs[i]? = some r → us[i]? = some a → ND.nk H r.1 (.ref a) ∧ r.1.depth ≤ 8
  nums : ∃ kvs, ND.ND P w H t.dn kvs ∧ kvs.length = rs.length ∧ ∀ k, valV kvs k = numOf rs k
theorem BkAt.same {P : Program} {w : World} {CB : Addr} {H H' : Hp} {o : Addr} {t : BkO} {us : List Addr} {rs : List BRow} (h : BkAt P w CB H o t us rs) (s : Same H H') : BkAt P w CB H' o t us rs := by
  obtain ⟨kvs, n1, n2, n3⟩ := h.nums
  exact ⟨s _ _ h.obj, h.ne, s _ _ h.ln, s _ _ h.ls, h.len, fun i r a e1 e2 => ⟨ND.nk_keep (fun b ys e => s _ _ e) _ _ (h.nk i r a e1 e2).1, (h.nk i r a e1 e2).2⟩, kvs, n1.keep (fun o e => s _ _ e) (fun b ys e => s _ _ e), n2, n3⟩
section
variable {P : Program} {w : World} {K : PySem.W.Frag} {mg : Str → Option Value} {base : Heap}
def spHas (P : Program) (w : World) (CB : Addr) : Sp := fun vs H Q _ => ∃ (o : Addr) (t : BkO) (us : List Addr) (rs : List BRow) (n : Int), vs = [.ref o, .int n] ∧ BkAt P w CB H o t us rs ∧ Q (.bl (decide (1 ≤ n ∧ n ≤ rs.length))) H
theorem ok_has (T : Txt K mg) : FnOk P w K mg base CX0 1 T.f_Bank_has T.fd_Bank_has ["self", "number"] (spHas P w T.C_Bank) := by
  refine T.F_Bank_has.ok sc_Bank_has (fun vs H Q E h => ?_) (fun cdv A outer s H vs Q E hr h => ?_)
  · obtain ⟨o, t, us, rs, n, rfl, _⟩ := h
    rfl
  · obtain ⟨o, t, us, rs, n, rfl, bk, h⟩ := h
    have hln := bk.ln
    have hul : (us.map V.ref).length = rs.length := by rw [List.length_map]; exact bk.len
    refine ⟨_, (pss_one (ps_ret (pe_chain op_le op_le pe_int (pv 1) (pe_callB call_len_seq (by rfl) T.m_len (by decide +kernel) (pa_cons (pe_fld (pv 0) rfl) pa_nil))))), ?_⟩
    refine Z.w_start (σ' := [some (.ref o), some (.int n)]) rfl ?_
    walk_at "w"
    by_cases e : (1 : Int) ≤ n
    · rw [decide_eq_true e, if_pos rfl]
      walk_at "w"
      refine w_fldT T.cl_Bank T.n_Bank__nodes bk.obj rfl ?_
      walk_at "w"
      rw [hul]
      have e2 : decide (n ≤ (rs.length : Int)) = decide (1 ≤ n ∧ n ≤ (rs.length : Int)) := by simp [e]
      rw [e2]
      exact h
    · rw [decide_eq_false e, if_neg (by decide)]
      rw [decide_eq_false (fun q => e q.1)] at h
      exact h
/-- a number of a node -/
def spSortOf (P : Program) (w : World) (CB : Addr) : Sp := fun vs H Q _ => ∃ (o : Addr) (t : BkO) (us : List Addr) (rs : List BRow) (i : Nat) (r : BRow), vs = [.ref o, .int ((i : Int) + 1)] ∧ BkAt P w CB H o t us rs ∧ rs[i]? = some r ∧ Q (.str r.2) H
theorem ok_sortOf (T : Txt K mg) : FnOk P w K mg base CX0 2 T.f_Bank_sort_of T.fd_Bank_sort_of ["self", "number"] (spSortOf P w T.C_Bank) := by
  have G_Bank_has := ok_has (P := P) (w := w) (base := base) T
  refine T.F_Bank_sort_of.ok sc_Bank_sort_of (fun vs H Q E h => ?_) (fun cdv A outer s H vs Q E hr h => ?_)
  · obtain ⟨o, t, us, rs, i, r, rfl, _⟩ := h
    rfl
  · obtain ⟨o, t, us, rs, i, r, rfl, bk, hi, h⟩ := h
    have hls := bk.ls
    have hlt := (List.getElem?_eq_some_iff.mp hi).1
    have hat : atI (rs.map fun r => V.str r.2) ((i : Int) + 1 - 1) = some (.str r.2) := by
      rw [show (i : Int) + 1 - 1 = (i : Int) by omega]
      exact atI_nat (by rw [List.getElem?_map, hi]; rfl)
    refine ⟨_, (pss_cons (ps_if (pt_not (pt_val (pe_meth (pv 0) T.cl_Bank T.M_Bank_has G_Bank_has (hr.mono (by first | decide | omega)) T.b_Bank_has .nil pass0 (pa_cons (pv 1) pa_nil)))) (pss_one ps_never) pss_nil)
 (pss_one (ps_ret (pe_ix ix_list (pe_fld (pv 0) rfl) (pe_op op_sub (pv 1) pe_int) (fun _ _ => rfl))))), ?_⟩
    refine Z.w_start (σ' := [some (.ref o), some (.int ((i:Int)+1))]) rfl ?_
    walk_at "w"
    refine w_meth0 bk.obj rfl (by rfl) ?_
    walk_at "w"
    refine ⟨o, t, us, rs, _, rfl, bk, ?_⟩
    rw [decide_eq_true (show (1 : Int) ≤ (i : Int) + 1 ∧ (i : Int) + 1 ≤ rs.length by omega)]
    refine ⟨true, rfl, ?_⟩
    rw [if_neg (by decide)]
    walk_at "w"
    refine w_fldT T.cl_Bank T.n_Bank__sorts bk.obj rfl ?_
    walk_at "w"
    exact h
def spNode (P : Program) (w : World) (CB : Addr) : Sp := fun vs H Q _ => ∃ (o : Addr) (t : BkO) (us : List Addr) (rs : List BRow) (i : Nat) (a : Addr), vs = [.ref o, .int ((i : Int) + 1)] ∧ BkAt P w CB H o t us rs ∧ us[i]? = some a ∧ Q (.ref a) H
theorem ok_node (T : Txt K mg) : FnOk P w K mg base CX0 2 T.f_Bank_node T.fd_Bank_node ["self", "number"] (spNode P w T.C_Bank) := by
  have G_Bank_has := ok_has (P := P) (w := w) (base := base) T
  refine T.F_Bank_node.ok sc_Bank_node (fun vs H Q E h => ?_) (fun cdv A outer s H vs Q E hr h => ?_)
  · obtain ⟨o, t, us, rs, i, a, rfl, _⟩ := h
    rfl
  · obtain ⟨o, t, us, rs, i, a, rfl, bk, hi, h⟩ := h
    have hln := bk.ln
    have hlt := (List.getElem?_eq_some_iff.mp hi).1
    rw [bk.len] at hlt
    have hat : atI (us.map V.ref) ((i : Int) + 1 - 1) = some (.ref a) := by
      rw [show (i : Int) + 1 - 1 = (i : Int) by omega]
      exact atI_nat (by rw [List.getElem?_map, hi]; rfl)
    refine ⟨_, (pss_cons (ps_if (pt_not (pt_val (pe_meth (pv 0) T.cl_Bank T.M_Bank_has G_Bank_has (hr.mono (by first | decide | omega)) T.b_Bank_has .nil pass0 (pa_cons (pv 1) pa_nil)))) (pss_one ps_never) pss_nil)
 (pss_one (ps_ret (pe_ix ix_list (pe_fld (pv 0) rfl) (pe_op op_sub (pv 1) pe_int) (fun _ _ => rfl))))), ?_⟩
    refine Z.w_start (σ' := [some (.ref o), some (.int ((i:Int)+1))]) rfl ?_
    walk_at "w"
    refine w_meth0 bk.obj rfl (by rfl) ?_
    walk_at "w"
    refine ⟨o, t, us, rs, _, rfl, bk, ?_⟩
    rw [decide_eq_true (show (1 : Int) ≤ (i : Int) + 1 ∧ (i : Int) + 1 ≤ rs.length by omega)]
    refine ⟨true, rfl, ?_⟩
    rw [if_neg (by decide)]
    walk_at "w"
    refine w_fldT T.cl_Bank T.n_Bank__nodes bk.obj rfl ?_
    walk_at "w"
    exact h
end
end L

namespace L
open PySem PySem.Spec PyProof.Rows L2 Z M
section
variable {P : Program} {w : World} {K : PySem.W.Frag} {mg : Str → Option Value} {base : Heap}
def spLenB (P : Program) (w : World) (CB : Addr) : Sp := fun vs H Q _ => ∃ (o : Addr) (t : BkO) (us : List Addr) (rs : List BRow), vs = [.ref o] ∧ BkAt P w CB H o t us rs ∧ Q (.int (rs.length : Int)) H
theorem ok_lenB (T : Txt K mg) : FnOk P w K mg base CX0 1 T.f_Bank_len T.fd_Bank_len ["self"] (spLenB P w T.C_Bank) := by
  refine T.F_Bank_len.ok sc_Bank_len (fun vs H Q E h => ?_) (fun cdv A outer s H vs Q E hr h => ?_)
  · obtain ⟨o, t, us, rs, rfl, _⟩ := h
    rfl
  · obtain ⟨o, t, us, rs, rfl, bk, h⟩ := h
    have hln := bk.ln
    have hul : (us.map V.ref).length = rs.length := by rw [List.length_map]; exact bk.len
    refine ⟨_, (pss_one (ps_ret (pe_callB call_len_seq (by rfl) T.m_len (by decide +kernel) (pa_cons (pe_fld (pv 0) rfl) pa_nil)))), ?_⟩
    refine Z.w_start (σ' := [some (.ref o)]) rfl ?_
    walk_at "w"
    refine w_fldT T.cl_Bank T.n_Bank__nodes bk.obj rfl ?_
    walk_at "w"
    rw [hul]
    exact h
/-- the parts of a node that is no equality -/
def spParts : Sp := fun vs H Q _ => ∃ (op : List Nat) (a : Addr) (ns : List Int), vs = [.str (_root_.SX.S op), .ref a] ∧ H a = some (.tup (ns.map V.int)) ∧ ns.length ≤ 50 ∧ op ≠ [101, 113, 117, 97, 108] ∧ ∀ p H', Same H H' → H' p = some (.tup (ns.map V.int)) → Q (.ref p) H'
theorem ok_parts (T : Txt K mg) : FnOk P w K mg base CX0 1 T.f_parts_kept T.fd_parts_kept ["op", "parts"] spParts := by
  refine T.F_parts_kept.ok sc_parts_kept (fun vs H Q E h => ?_) (fun cdv A outer s H vs Q E hr h => ?_)
  · obtain ⟨op, a, ns, rfl, _⟩ := h
    rfl
  · obtain ⟨op, a, ns, rfl, ea, hl, e, h⟩ := h
    refine ⟨_, (pss_one (ps_ret (pe_ifExp (pt_cmpR op_eq (pv 0) (MT.pe_strS (l := [101, 113, 117, 97, 108]) (by decide +kernel)) (nomark _)) (pe_callTy call_tuple_of (by rfl) T.m_tuple (by decide +kernel) (pa_cons (pe_callB cr_sorted (by rfl) T.m_sorted (by decide +kernel) (pa_cons (pv 1) pa_nil)) pa_nil)) (pe_callTy call_tuple_of (by rfl) T.m_tuple (by decide +kernel) (pa_cons (pv 1) pa_nil))))), ?_⟩
    refine Z.w_start (σ' := [some (.str (_root_.SX.S op)), some (.ref a)]) rfl ?_
    walk_at "w"
    walk_at "w"
    first
      | exact h a H (Same.refl _) ea
      | exact ⟨a, _, rfl, .inr ⟨.inl (.inl ea), h a H (Same.refl _) ea⟩⟩
      | exact ⟨a, _, rfl, .inr ⟨.inl (.inl ea), fun p hp => h p _ (same_of (Same.refl _) hp) upd_same⟩⟩
      | exact ⟨a, _, rfl, .inl ⟨.inl (.inl ea), fun p hp => h p _ (same_of (Same.refl _) hp) upd_same⟩⟩
end
end L

namespace L
open PySem PySem.Spec PyProof.Rows L2 Z M
open _root_.SX (S S_len S_inj)
/-- a name that may be declared -/
def nameB (l : List Nat) : Bool := !decide (l ∈ w_RESERVED) && l.all (· < 128) && NM.fst1 l && l.all NM.nc
theorem inV_S (l : List Nat) (ls : List (List Nat)) : inV (.str (S l)) (ls.map fun l => V.str (S l)) = decide (l ∈ ls) := by
  unfold inV
  induction ls with
  | nil => simp
  | cons m ls ih =>
    rw [List.map_cons, List.any_cons, ih]
    have e : eqV (.str (S m)) (.str (S l)) = decide (l = m) := by
      show (S m == S l) = _
      by_cases h : l = m
      · subst h; simp
      · rw [decide_eq_false h]
        exact beq_eq_false_iff_ne.mpr fun z => h (S_inj z).symm
    rw [e]
    simp [List.mem_cons]
theorem flat_S (ls : List (List Nat)) : (ls.map fun l => V.str (S l)).all flatV = true := by
  induction ls with
  | nil => rfl
  | cons m ls ih => exact ih
section
variable {P : Program} {w : World} {K : PySem.W.Frag} {mg : Str → Option Value} {base : Heap}
theorem w_inS {p : Addr} {l : List Nat} {ls : List (List Nat)} {H : Hp} {Q : VK} (h : SqT K H p (ls.map fun l => V.str (S l))) (q : Q (.bl (decide (l ∈ ls))) H) : rIn K false (.str (S l)) (.ref p) H Q := w_opin (.inr h) rfl (flat_S ls) (by rw [inV_S]; exact q)
theorem w_ninS {p : Addr} {l : List Nat} {ls : List (List Nat)} {H : Hp} {Q : VK} (h : SqT K H p (ls.map fun l => V.str (S l))) (q : Q (.bl (!decide (l ∈ ls))) H) : rIn K true (.str (S l)) (.ref p) H Q := w_opin (.inr h) rfl (flat_S ls) (by rw [inV_S]; exact q)
theorem w_repl {l : List Nat} {to : TE} {y z : Str} {σ : L2.St} {H : Hp} {Q : VK} (hy : y = S [95]) (hz : z = S [97]) (hl : l.length ≤ 1000) (h : ∀ Q', Q' (.str (S l)) H → to σ H Q') (q : Q (.str (S (l.map fun c => if c = 95 then 97 else c))) H) : CwR.tReplC to y z σ H Q := by
  subst hy hz
  refine h _ ⟨S l, rfl, ?_, ?_⟩
  · rw [S_len, S_len]
    show l.length + (l.length + 1) * 1 ≤ 16777216
    omega
  · rw [NM.repl_S]
    exact q
def spIsName : Sp := fun vs H Q _ => ∃ l : List Nat, vs = [.str (S l)] ∧ l.length ≤ 1000 ∧ Q (.bl (nameB l)) H
theorem ok_isName (T : Txt K mg) : FnOk P w K mg base CX0 1 T.f_is_name T.fd_is_name ["text"] spIsName := by
  refine T.F_is_name.ok sc_is_name (fun vs H Q E h => ?_) (fun cdv A outer s H vs Q E hr h => ?_)
  · obtain ⟨l, rfl, _⟩ := h
    rfl
  · obtain ⟨l, rfl, hl, h⟩ := h
    refine ⟨_, (pss_cons (ps_if (PW.pt (pw_or (pt_cmpR op_in_seq (pv 0) (pe_glob (v := .ref T.A_RESERVED) (by rfl) T.g_RESERVED rfl) rfl) (pw_or1 (pt_not (pt_val (pe_m0 PySem.F.slot_str_isascii PySem.F.type_str_isascii mt_isascii (pv 0))))))) (pss_one (ps_ret pe_bl)) pss_nil)
 (pss_one (ps_ret (NM.pe_andU (NM.peu_m0 PySem.F.slot_str_isalpha PySem.F.type_str_isalpha mt_isalpha (NM.peu_sliceTo sl_str (pv 0))) (NM.pet_m0 PySem.F.slot_str_isalnum PySem.F.type_str_isalnum mt_isalnum (CwR.pet_replC (pv 0))))))), ?_⟩
    refine Z.w_start (σ' := [some (.str (S l))]) rfl ?_
    walk_at "w"
    refine w_inS (T.z_RESERVED _) ?_
    refine ⟨_, rfl, ?_⟩
    by_cases h1 : l ∈ w_RESERVED
    · rw [decide_eq_true h1, if_pos rfl]
      walk_at "w"
      rw [show nameB l = false by unfold nameB; rw [decide_eq_true h1]; rfl] at h
      exact h
    · rw [decide_eq_false h1, if_neg (by decide)]
      walk_at "w"
      rw [MT.ascii_S]
      have e2 : nameB l = (l.all (· < 128) && NM.fst1 l && l.all NM.nc) := by
        unfold nameB; rw [decide_eq_false h1]; rfl
      by_cases h2 : l.all (· < 128) = true
      · rw [h2] at e2 ⊢
        walk_at "w"
        rw [show ((1 : Int).toNat) = 1 from rfl, NM.alpha1_S l h2]
        cases hb : NM.fst1 l with
        | false =>
          rw [if_neg (by decide)]
          rw [hb] at e2
          rw [show nameB l = false by rw [e2]; rfl] at h
          exact h
        | true =>
          rw [if_pos rfl]
          rw [hb] at e2
          walk_at "w"
          refine w_repl (by decide +kernel) (by decide +kernel) hl (fun Q' hq => by walk_at "w"; exact hq) ?_
          walk_at "w"
          rw [NM.alnum_S l h2]
          have e3 : l.isEmpty = false := by cases l with | nil => cases hb | cons c r => rfl
          rw [e3]
          rw [e2] at h
          exact h
      · rw [Bool.not_eq_true] at h2
        rw [h2]
        walk_at "w"
        rw [show nameB l = false by rw [e2, h2]; rfl] at h
        exact h
end
end L

namespace L
open PySem PySem.Spec PyProof.Rows L2 Z M
open _root_.SX (S S_len S_inj)
section
variable {P : Program} {w : World} {K : PySem.W.Frag} {mg : Str → Option Value} {base : Heap}
/-- a name that may be declared and is not there -/
def spRefN (C : Addr) : Sp := fun vs H Q _ => ∃ (o : Addr) (t : SgO) (ss : List Str) (fs : List FnRow) (l : List Nat), vs = [.ref o, .str (S l)] ∧ SigAt C H o t ss fs ∧ l.length ≤ 1000 ∧ nameB l = true ∧ S l ∉ ss ∧ fs.lookup (S l) = none ∧ Q .non H
theorem ok_refN (T : Txt K mg) : FnOk P w K mg base CX0 2 T.f_Signature_refuse_name T.fd_Signature_refuse_name ["self", "name"] (spRefN T.C_Signature) := by
  have G_is_name := ok_isName (P := P) (w := w) (base := base) T
  refine T.F_Signature_refuse_name.ok sc_Signature_refuse_name (fun vs H Q E h => ?_) (fun cdv A outer s H vs Q E hr h => ?_)
  · obtain ⟨o, t, ss, fs, l, rfl, _⟩ := h
    rfl
  · obtain ⟨o, t, ss, fs, l, rfl, sg, hl, hb, n1, n2, h⟩ := h
    obtain ⟨ks, hs, hv, _⟩ := sg.so
    obtain ⟨kf, hf, hw, _⟩ := sg.fu
    have g1 := DGet.k (k := Sum.inr (S l)) hs
    have g2 := DGet.k (k := Sum.inr (S l)) hf
    have e1 : (valV ks (Sum.inr (S l))).isSome = false := by rw [hv]; exact decide_eq_false n1
    have e2 : (valV kf (Sum.inr (S l))).isSome = false := by rw [(hw (S l)).some_eq, n2]; rfl
    refine ⟨_, (pss_cons (ps_if (pt_not (pt_val (pe_call G_is_name (hr.mono (by first | decide | omega)) (by rfl) T.g_is_name T.F_is_name.kp T.b_is_name .nil pass0 (pa_cons (pv 1) pa_nil)))) (pss_one ps_never) pss_nil)
 (pss_one (ps_if (PW.pt (pw_or (pt_cmp (pc_din (hu_of hr) (pv 1) (pe_fld (pv 0) rfl))) (pw_or1 (pt_cmp (pc_din (hu_of hr) (pv 1) (pe_fld (pv 0) rfl)))))) (pss_one ps_never) pss_nil))), ?_⟩
    refine Z.w_start (σ' := [some (.ref o), some (.str (S l))]) rfl ?_
    walk_at "w"
    refine ⟨l, rfl, hl, ?_⟩
    rw [hb]
    walk_at "w"
    refine w_fldT T.cl_Signature T.n_Signature__sorts sg.obj rfl ?_
    refine ⟨t.ds, _, rfl, g1, ?_⟩
    rw [e1]
    walk_at "w"
    refine w_fldT T.cl_Signature T.n_Signature__functions sg.obj rfl ?_
    refine ⟨t.df, _, rfl, g2, ?_⟩
    rw [e2]
    walk_at "w"
    exact h
def spKnS (C : Addr) : Sp := fun vs H Q _ => ∃ (o : Addr) (t : SgO) (ss : List Str) (fs : List FnRow) (l : List Nat), vs = [.ref o, .str (S l)] ∧ SigAt C H o t ss fs ∧ Q (.bl (decide (l ∈ w_BASE_SORTS) || decide (S l ∈ ss))) H
theorem ok_knS (T : Txt K mg) : FnOk P w K mg base CX0 1 T.f_Signature_knows_sort T.fd_Signature_knows_sort ["self", "name"] (spKnS T.C_Signature) := by
  refine T.F_Signature_knows_sort.ok sc_Signature_knows_sort (fun vs H Q E h => ?_) (fun cdv A outer s H vs Q E hr h => ?_)
  · obtain ⟨o, t, ss, fs, l, rfl, _⟩ := h
    rfl
  · obtain ⟨o, t, ss, fs, l, rfl, sg, h⟩ := h
    obtain ⟨ks, hs, hv, _⟩ := sg.so
    have g1 := DGet.k (k := Sum.inr (S l)) hs
    refine ⟨_, (pss_one (ps_ret (pe_or (pe_cmpR op_in_seq (pv 1) (pe_glob (v := .ref T.A_BASE_SORTS) (by rfl) T.g_BASE_SORTS rfl) rfl) (pe_one (pe_cmp (pc_din (hu_of hr) (pv 1) (pe_fld (pv 0) rfl))))))), ?_⟩
    refine Z.w_start (σ' := [some (.ref o), some (.str (S l))]) rfl ?_
    walk_at "w"
    refine w_inS (T.z_BASE_SORTS _) ?_
    refine ⟨_, rfl, ?_⟩
    by_cases h1 : l ∈ w_BASE_SORTS
    · rw [decide_eq_true h1, if_pos rfl]
      rw [decide_eq_true h1] at h
      exact h
    · rw [decide_eq_false h1, if_neg (by decide)]
      rw [decide_eq_false h1] at h
      walk_at "w"
      refine w_fldT T.cl_Signature T.n_Signature__sorts sg.obj rfl ?_
      refine ⟨t.ds, _, rfl, g1, ?_⟩
      rw [hv]
      exact h
theorem SigAt.nd {C : Addr} {H : Hp} {o : Addr} {t : SgO} {ss : List Str} {fs : List FnRow} (sg : SigAt C H o t ss fs) : o ≠ t.ds ∧ o ≠ t.df := by
  obtain ⟨ks, hs, hv, _⟩ := sg.so
  obtain ⟨kf, hf, hw, _⟩ := sg.fu
  exact ⟨ne_ins sg.obj hs (fun _ _ _ e => nomatch e), ne_ins sg.obj hf (fun _ _ _ e => nomatch e)⟩
/-- a new sort -/
def spDeclS (C : Addr) : Sp := fun vs H Q _ => ∃ (o : Addr) (t : SgO) (ss : List Str) (fs : List FnRow) (l : List Nat), vs = [.ref o, .str (S l)] ∧ SigAt C H o t ss fs ∧ l.length ≤ 1000 ∧ nameB l = true ∧ S l ∉ ss ∧ fs.lookup (S l) = none ∧ ss.length ≤ 1000 ∧
  ∀ H', Ch [t.ds] H H' → SigAt C H' o t (ss ++ [S l]) fs → Q .non H'
theorem ok_declS (T : Txt K mg) : FnOk P w K mg base CX0 3 T.f_Signature_declare_sort T.fd_Signature_declare_sort ["self", "name"] (spDeclS T.C_Signature) := by
  have G_Signature_refuse_name := ok_refN (P := P) (w := w) (base := base) T
  refine T.F_Signature_declare_sort.ok sc_Signature_declare_sort (fun vs H Q E h => ?_) (fun cdv A outer s H vs Q E hr h => ?_)
  · obtain ⟨o, t, ss, fs, l, rfl, _⟩ := h
    rfl
  · obtain ⟨o, t, ss, fs, l, rfl, sg, hl, hb, n1, n2, hsl, h⟩ := h
    obtain ⟨ks, hs, hv, hkl⟩ := sg.so
    obtain ⟨kf, hf, hw, hfl⟩ := sg.fu
    have hksz : ks.length < sizeLine := Nat.lt_of_le_of_lt (Nat.le_trans hkl hsl) (by decide)
    refine ⟨_, (pss_cons (ps_expr (pe_meth (pv 0) T.cl_Signature T.M_Signature_refuse_name G_Signature_refuse_name (hr.mono (by first | decide | omega)) T.b_Signature_refuse_name .nil pass0 (pa_cons (pv 1) pa_nil)))
 (pss_one (ps_dput (hu_of hr) (pe_fld (pv 0) rfl) (pv 1) pe_bl rfl))), ?_⟩
    refine Z.w_start (σ' := [some (.ref o), some (.str (S l))]) rfl ?_
    walk_at "w"
    refine w_meth0 sg.obj rfl (by rfl) ?_
    walk_at "w"
    refine ⟨o, t, ss, fs, l, rfl, sg, hl, hb, n1, n2, ?_⟩
    walk_at "w"
    refine w_fldT T.cl_Signature T.n_Signature__sorts sg.obj rfl ?_
    walk_at "w"
    refine ⟨t.ds, _, rfl, DPut.k (k := Sum.inr (S l)) hs hksz, ?_⟩
    refine h _ ((Ch.refl _ _).put (List.mem_singleton.mpr rfl)) ⟨?_, sg.ne, ⟨_, upd_same, fun x => ?_, ?_⟩, kf, ?_, fun x => (hw x).same fun b ys e => ?_, hfl⟩
    · rw [upd_ne sg.nd.1]
      exact sg.obj
    · rw [valV_put]
      by_cases e : x = S l
      · subst e
        rw [if_pos rfl]
        simp
      · rw [if_neg (fun z => e (Sum.inr.inj z)), hv]
        simp [e]
    · have := length_putK ks (Sum.inr (S l)) (.bl true)
      rw [List.length_append]
      simp
      omega
    · rw [upd_ne sg.ne.symm]
      exact hf
    · rw [upd_ne (fun z => by rw [z, hs] at e; cases e)]
      exact e
end
end L

namespace L
open PySem PySem.Spec PyProof.Rows L2 Z M
open _root_.SX (S S_len S_inj)
section
variable {P : Program} {w : World} {K : PySem.W.Frag} {mg : Str → Option Value} {base : Heap}
theorem lookup_new {fs : List FnRow} {x y : Str} {r : List Str × Str} (h : fs.lookup x = none) : (fs ++ [(x, r)]).lookup y = if y = x then some r else fs.lookup y := by
  induction fs with
  | nil =>
    show (match y == x with | true => some r | false => none) = _
    by_cases e : y = x
    · subst e; simp
    · rw [if_neg e, beq_eq_false_iff_ne.mpr e]; rfl
  | cons p fs ih =>
    obtain ⟨z, q⟩ := p
    rw [List.lookup_cons] at h
    cases hz : (x == z) with
    | true => rw [hz] at h; cases h
    | false =>
      rw [hz] at h
      have := ih h
      rw [List.cons_append, List.lookup_cons, List.lookup_cons, this]
      cases hy : (y == z) with
      | false => rfl
      | true =>
        obtain rfl := eq_of_beq hy
        have e : ¬ y = x := fun e => by
          rw [e, beq_self_eq_true] at hz
          cases hz
        exact (if_neg e).symm
def okSort (ss : List Str) (l : List Nat) : Prop := (l ∈ w_BASE_SORTS ∨ S l ∈ ss)
/-- a new function -/
def spDeclF (K : PySem.W.Frag) (C : Addr) : Sp := fun vs H Q _ => ∃ (o : Addr) (t : SgO) (ss : List Str) (fs : List FnRow) (l : List Nat) (al : Addr) (as : List (List Nat)) (r : List Nat), vs = [.ref o, .str (S l), .ref al, .str (S r)] ∧ SigAt C H o t ss fs ∧ l.length ≤ 1000 ∧ nameB l = true ∧ S l ∉ ss ∧ fs.lookup (S l) = none ∧ fs.length ≤ 1000 ∧
  H al = some (.lst (as.map fun a => V.str (S a))) ∧ as.length ≤ 50 ∧ (∀ a ∈ as, okSort ss a ∧ a ≠ [116, 114, 117, 116, 104]) ∧ okSort ss r ∧
  ∀ H', Ch [t.df] H H' → SigAt C H' o t ss (fs ++ [(S l, as.map S, S r)]) → Q .non H'
theorem ok_declF (T : Txt K mg) : FnOk P w K mg base CX0 3 T.f_Signature_declare_function T.fd_Signature_declare_function ["self", "name", "arguments", "result"] (spDeclF K T.C_Signature) := by
  have G_Signature_refuse_name := ok_refN (P := P) (w := w) (base := base) T
  have G_Signature_knows_sort := ok_knS (P := P) (w := w) (base := base) T
  refine T.F_Signature_declare_function.ok sc_Signature_declare_function (fun vs H Q E h => ?_) (fun cdv A outer s H vs Q E hr h => ?_)
  · obtain ⟨o, t, ss, fs, l, al, as, r, rfl, _⟩ := h
    rfl
  · obtain ⟨o, t, ss, fs, l, al, as, r, rfl, sg, hl, hb, n1, n2, hsl, ea, hal, hok, hr2, h⟩ := h
    obtain ⟨ks, hs, hv, hkl⟩ := sg.so
    obtain ⟨kf, hf, hw, hfl⟩ := sg.fu
    have hksz : kf.length < sizeLine := Nat.lt_of_le_of_lt (Nat.le_trans hfl hsl) (by decide)
    refine ⟨_, (pss_cons (ps_expr (pe_meth (pv 0) T.cl_Signature T.M_Signature_refuse_name G_Signature_refuse_name (hr.mono (by first | decide | omega)) T.b_Signature_refuse_name .nil pass0 (pa_cons (pv 1) pa_nil)))
 (pss_cons (ps_for PassesOwn.never rfl (pi_list (pv 2)) (pg_name (i := 4) sc_Signature_declare_function.nd rfl (.inl rfl)) (pss_cons (ps_if (pt_not (pt_val (pe_meth (pv 0) T.cl_Signature T.M_Signature_knows_sort G_Signature_knows_sort (hr.mono (by first | decide | omega)) T.b_Signature_knows_sort .nil pass0 (pa_cons (pv 4) pa_nil)))) (pss_one ps_never) pss_nil)
 (pss_one (ps_if (pt_cmpR op_eq (pv 4) (MT.pe_strS (l := [116, 114, 117, 116, 104]) (by decide +kernel)) (nomark _)) (pss_one ps_never) pss_nil))))
 (pss_cons (ps_if (pt_not (pt_val (pe_meth (pv 0) T.cl_Signature T.M_Signature_knows_sort G_Signature_knows_sort (hr.mono (by first | decide | omega)) T.b_Signature_knows_sort .nil pass0 (pa_cons (pv 3) pa_nil)))) (pss_one ps_never) pss_nil)
 (pss_one (ps_dput (hu_of hr) (pe_fld (pv 0) rfl) (pv 1) (pe_tup (pa_cons (pe_callTy call_tuple_of (by rfl) T.m_tuple (by decide +kernel) (pa_cons (pv 2) pa_nil)) (pa_cons (pv 3) pa_nil))) rfl))))), ?_⟩
    refine Z.w_start (σ' := [some (.ref o), some (.str (S l)), some (.ref al), some (.str (S r)), none]) rfl ?_
    walk_at "w"
    refine w_meth0 sg.obj rfl (by rfl) ?_
    walk_at "w"
    refine ⟨o, t, ss, fs, l, rfl, sg, hl, hb, n1, n2, ?_⟩
    walk_at "w"
    refine for_list (xs := as.map fun a => V.str (S a)) (fun i σ' H' => H' = H ∧ ∃ v, σ' = [some (.ref o), some (.str (S l)), some (.ref al), some (.str (S r)), v]) ⟨rfl, none, rfl⟩ ?_ ?_ ?_
    · rintro i σ' H' _ ⟨rfl, _⟩
      exact .inl (.inl ea)
    · rintro i x σ' H' hx ⟨rfl, v, rfl⟩
      rw [List.getElem?_map] at hx
      obtain ⟨a, ha, rfl⟩ := Option.map_eq_some_iff.mp hx
      obtain ⟨h1, h2⟩ := hok a (List.mem_of_getElem? ha)
      walk_at "w"
      refine w_meth0 sg.obj rfl (by rfl) ?_
      walk_at "w"
      refine ⟨o, t, ss, fs, a, rfl, sg, ?_⟩
      have e1 : (decide (a ∈ w_BASE_SORTS) || decide (S a ∈ ss)) = true := by
        rcases h1 with q | q
        · rw [decide_eq_true q]; rfl
        · rw [decide_eq_true q, Bool.or_true]
      rw [e1]
      walk_at "w"
      exact ⟨_, rfl⟩
    · rintro σ' H' ⟨rfl, v, rfl⟩
      walk_at "w"
      refine w_meth0 sg.obj rfl (by rfl) ?_
      walk_at "w"
      refine ⟨o, t, ss, fs, r, rfl, sg, ?_⟩
      have e1 : (decide (r ∈ w_BASE_SORTS) || decide (S r ∈ ss)) = true := by
        rcases hr2 with q | q
        · rw [decide_eq_true q]; rfl
        · rw [decide_eq_true q, Bool.or_true]
      rw [e1]
      walk_at "w"
      refine ⟨al, _, rfl, .inl ⟨.inl (.inl ea), fun p hp => ?_⟩⟩
      walk_at "w"
      rename_i q hq
      have hpq : upd (upd H' p (.tup (as.map fun a => V.str (S a)))) q (.tup [.ref p, .str (S r)]) p = some (.tup (as.map fun a => V.str (S a))) := upd_of hq upd_same
      have sm : Same H' (upd (upd H' p (.tup (as.map fun a => V.str (S a)))) q (.tup [.ref p, .str (S r)])) := same_of (same_of (Same.refl _) hp) hq
      have eqq : upd (upd H' p (.tup (as.map fun a => V.str (S a)))) q (.tup [.ref p, .str (S r)]) q = some (.tup [.ref p, .str (S r)]) := upd_same
      generalize upd (upd H' p (.tup (as.map fun a => V.str (S a)))) q (.tup [.ref p, .str (S r)]) = H2 at hpq sm eqq ⊢
      have sg2 := sg.same sm
      refine w_fldT T.cl_Signature T.n_Signature__functions sg2.obj rfl ?_
      walk_at "w"
      refine ⟨t.df, _, rfl, DPut.k (k := Sum.inr (S l)) (sm _ _ hf) hksz, ?_⟩
      have tp : ∀ b ys, H2 b = some (.tup ys) → ∀ u, upd H2 t.df u b = some (.tup ys) := fun b ys e u => by
        rw [upd_ne (fun z => by rw [z, sm _ _ hf] at e; cases e)]
        exact e
      refine h _ ((Ch.of sm).put (List.mem_singleton.mpr rfl)) ⟨?_, sg.ne, ⟨ks, ?_, hv, hkl⟩, _, upd_same, fun x => ?_, ?_⟩
      · rw [upd_ne sg.nd.2]
        exact sg2.obj
      · rw [upd_ne sg.ne]
        exact sm _ _ hs
      · rw [valV_put, lookup_new n2]
        by_cases e : x = S l
        · subst e
          rw [if_pos rfl, if_pos rfl]
          exact ⟨q, p, rfl, tp _ _ eqq _, by rw [List.map_map]; exact tp _ _ hpq _⟩
        · rw [if_neg (fun z => e (Sum.inr.inj z)), if_neg e]
          exact (hw x).same fun b ys e => tp _ _ (sm _ _ e) _
      · have := length_putK kf (Sum.inr (S l)) (.ref q)
        rw [List.length_append]
        simp
        omega
/-- a new signature -/
def spSigInit (C : Addr) : Sp := fun vs H Q _ => ∃ (x dx : Addr), vs = [.ref x] ∧ H x = some (.ins C dx []) ∧ ∀ H' t, Ch [x] H H' → t.dx = dx → SigAt C H' x t [] [] → H t.ds = none → H t.df = none → Q .non H'
theorem ok_sigInit (T : Txt K mg) : FnOk P w K mg base CX0 1 T.f_Signature_init T.fd_Signature_init ["self"] (spSigInit T.C_Signature) := by
  refine T.F_Signature_init.ok sc_Signature_init (fun vs H Q E h => ?_) (fun cdv A outer s H vs Q E hr h => ?_)
  · obtain ⟨x, dx, rfl, _⟩ := h
    rfl
  · obtain ⟨x, dx, rfl, hx, h⟩ := h
    refine ⟨_, (pss_cons (ps_fld (pv 0) pe_dnewK rfl)
 (pss_one (ps_fld (pv 0) pe_dnewK rfl))), ?_⟩
    refine Z.w_start (σ' := [some (.ref x)]) rfl ?_
    walk_at "w"
    refine w_fld (Z.w_dnew fun l1 hl1 => Z.w_var (v := V.ref x) rfl ⟨x, _, dx, [], rfl, upd_of hl1 hx, T.cl_Signature, T.n_Signature__sorts, by decide, ?_⟩)
    walk_at "w"
    refine w_fld (Z.w_dnew fun l2 hl2 => Z.w_var (v := V.ref x) rfl ⟨x, _, dx, _, rfl, upd_of hl2 upd_same, T.cl_Signature, T.n_Signature__functions, (by show 1 < 1000; decide), ?_⟩)
    have n1 : l1 ≠ x := fun e => by rw [e, hx] at hl1; cases hl1
    have n2 : l2 ≠ x := fun e => by rw [e, upd_same] at hl2; cases hl2
    rw [upd_ne n2] at hl2
    have n3 : l2 ≠ l1 := fun e => by rw [e, upd_same] at hl2; cases hl2
    rw [upd_ne n3] at hl2
    walk_at "w"
    refine h _ ⟨dx, l1, l2⟩ (((((Ch.refl _ _).new hl1).put (List.mem_singleton.mpr rfl)).new ?_).put (List.mem_singleton.mpr rfl)) rfl ⟨upd_same, n3.symm, ⟨[], ?_, fun x => rfl, Nat.le_refl _⟩, [], ?_, fun x => rfl, Nat.le_refl _⟩ hl1 hl2
    · rw [upd_ne n2, upd_ne n3]; exact hl2
    · rw [upd_ne n1, upd_ne n3.symm, upd_ne n1, upd_same]
    · rw [upd_ne n2, upd_same]
end
end L

namespace L
open PySem PySem.Spec PyProof.Rows L2 Z M
open _root_.SX (S S_len S_inj)
/-- the two dicts of the module -/
structure Tw (K : PySem.W.Frag) (mg : Str → Option Value) (T : Txt K mg) (w : World) : Prop where
  leaf : ∃ es n, KDict K w T.A_LEAF_SORTS es n
  sums : ∃ es n, KDict K w T.A_SUMS es n
section
variable {K : PySem.W.Frag} {H : Hp}
theorem dp_strs : ∀ ls : List (List Nat), DpAll K H (ls.map fun l => V.str (S l)) (ls.map fun l => PyData.str (S l))
  | [] => .nil
  | n :: ns => .cons (.str _) (dp_strs ns)
theorem lay_strs : ∀ ls : List (List Nat), (∀ l ∈ ls, PyData.canLay0 (.str (S l)) = true) → PyData.canLayAll0 (ls.map fun l => PyData.str (S l)) = true
  | [], _ => rfl
  | n :: ns, h => by
    rw [List.map_cons, PyData.canLayAll0, lay_strs ns fun l hl => h l (List.mem_cons_of_mem _ hl), Bool.and_true]
    exact h n List.mem_cons_self
theorem dep_strs : ∀ ls : List (List Nat), PyData.depthAll (ls.map fun l => PyData.str (S l)) ≤ 1
  | [] => by simp [PyData.depthAll]
  | n :: ns => by
    have := dep_strs ns
    simp only [List.map_cons, PyData.depthAll, PyData.depth]
    omega
theorem eqv_strs : ∀ ls : List (List Nat), PyData.eqvAll (ls.map fun l => PyData.str (S l)) (ls.map fun l => PyData.str (S l)) = true
  | [] => by simp [PyData.eqvAll]
  | n :: ns => by
    rw [List.map_cons, PyData.eqvAll, eqv_strs ns]
    simp [PyData.eqv]
theorem shp_strs (ls : List (List Nat)) (h : ∀ l ∈ ls, PyData.canLay0 (.str (S l)) = true) : SeqAt.shaped (.tuple (ls.map fun l => PyData.str (S l))) = true := by
  have h1 := lay_strs ls h
  have h2 := dep_strs ls
  unfold SeqAt.shaped
  simp [PyData.canLay0, PyData.depth, h1]
  omega
theorem eq_strsT {a b : Addr} {ls : List (List Nat)} {Q : VK} (ho : ∀ l ∈ ls, PyData.canLay0 (.str (S l)) = true) (ha : SqT K H a (ls.map fun l => V.str (S l))) (hb : SqT K H b (ls.map fun l => V.str (S l))) (q : Q (.bl true) H) : rEqD K (.ref a) (.ref b) H Q :=
  ⟨.tuple _, .tuple _, .tup ha (dp_strs ls), .tup hb (dp_strs ls), shp_strs ls ho, shp_strs ls ho, by
    rw [show PyData.eqv (.tuple (ls.map fun l => PyData.str (S l))) (.tuple (ls.map fun l => PyData.str (S l))) = true from by rw [PyData.eqv]; exact eqv_strs ls]
    exact q⟩
end
section
variable {P : Program} {w : World} {K : PySem.W.Frag} {mg : Str → Option Value} {base : Heap}
def spNo : Sp := fun _ _ _ _ => False
def CALL : List Nat := [99, 97, 108, 108]
/-- the sort of a call that fits, or of a leaf -/
def spSM (C : Addr) : Sp := fun vs H Q _ =>
  (∃ (o : Addr) (t : SgO) (ss : List Str) (fs : List FnRow) (f : List Nat) (as : List (List Nat)) (r : List Nat) (la : Addr), vs = [.ref o, .str (S CALL), .str (S f), .ref la] ∧ SigAt C H o t ss fs ∧ fs.lookup (S f) = some (as.map S, S r) ∧ (∀ l ∈ as, PyData.canLay0 (.str (S l)) = true) ∧ H la = some (.lst (as.map fun l => V.str (S l))) ∧ ∀ H', Same H H' → Q (.str (S r)) H') ∨
  ∃ (o : Addr) (op s : List Nat) (la : Addr) (val : V), vs = [.ref o, .str (S op), val, .ref la] ∧ (op, s) ∈ d_LEAF_SORTS ∧ H la = some (.lst []) ∧ Q (.str (S s)) H
theorem ok_sortMade (T : Txt K mg) (W : Tw K mg T w) : FnOk P w K mg base CX0 3 T.f_sort_made T.fd_sort_made ["signature", "op", "value", "sorts"] (spSM T.C_Signature) := by
  have G_Signature_arguments_of := ok_args (P := P) (w := w) (base := base) T
  have G_Signature_result_of := ok_res (P := P) (w := w) (base := base) T
  have G_sum_fits : FnOk P w K mg base CX0 1 T.f_sum_fits T.fd_sum_fits ["op", "sorts"] spNo := T.F_sum_fits.ok sc_sum_fits (fun vs H Q E h => h.elim) (fun cdv A outer s H vs Q E hr h => h.elim)
  have G_connective_fits : FnOk P w K mg base CX0 1 T.f_connective_fits T.fd_connective_fits ["op", "sorts"] spNo := T.F_connective_fits.ok sc_connective_fits (fun vs H Q E h => h.elim) (fun cdv A outer s H vs Q E hr h => h.elim)
  have G_comparison_fits : FnOk P w K mg base CX0 1 T.f_comparison_fits T.fd_comparison_fits ["op", "sorts"] spNo := T.F_comparison_fits.ok sc_comparison_fits (fun vs H Q E h => h.elim) (fun cdv A outer s H vs Q E hr h => h.elim)
  obtain ⟨lk, ln, LD⟩ := W.leaf
  obtain ⟨sk, sn, SD⟩ := W.sums
  refine T.F_sort_made.ok sc_sort_made (fun vs H Q E h => ?_) (fun cdv A outer s H vs Q E hr h => ?_)
  · rcases h with ⟨o, t, ss, fs, f, as, r, la, rfl, _⟩ | ⟨o, op, s, la, val, rfl, _⟩ <;> rfl
  · refine ⟨_, (pss_cons (ps_if (pt_cmpR op_eq (pv 1) (MT.pe_strS (l := [99, 97, 108, 108]) (by decide +kernel)) (nomark _)) (pss_cons (ps_set (i := 4) sc_sort_made.nd rfl (.inl rfl) (pe_cmpR (op_eqD hr.units) (pe_callTy call_tuple_of (by rfl) T.m_tuple (by decide +kernel) (pa_cons (pv 3) pa_nil)) (pe_meth (pv 0) T.cl_Signature T.M_Signature_arguments_of G_Signature_arguments_of (hr.mono (by first | decide | omega)) T.b_Signature_arguments_of .nil pass0 (pa_cons (pv 2) pa_nil)) (nomark _)))
 (pss_one (ps_ret (pe_ifExp (pt_val (pv 4)) (pe_meth (pv 0) T.cl_Signature T.M_Signature_result_of G_Signature_result_of (hr.mono (by first | decide | omega)) T.b_Signature_result_of .nil pass0 (pa_cons (pv 2) pa_nil)) pe_non)))) pss_nil)
 (pss_cons (ps_if (pt_cmpR op_eq (pv 1) (MT.pe_strS (l := [105, 102]) (by decide +kernel)) (nomark _)) (pss_cons (ps_set (i := 4) sc_sort_made.nd rfl (.inl rfl) (pe_and (pe_cmpR op_eq (pe_callB call_len_seq (by rfl) T.m_len (by decide +kernel) (pa_cons (pv 3) pa_nil)) pe_int (nomark _)) (pe_and (pe_cmpR op_eq (pe_ix ix_list (pv 3) pe_int (fun _ _ => rfl)) (MT.pe_strS (l := [116, 114, 117, 116, 104]) (by decide +kernel)) (nomark _)) (pe_one (pe_cmpR op_eq (pe_ix ix_list (pv 3) pe_int (fun _ _ => rfl)) (pe_ix ix_list (pv 3) pe_int (fun _ _ => rfl)) (nomark _))))))
 (pss_one (ps_ret (pe_ifExp (pt_val (pv 4)) (pe_ix ix_list (pv 3) pe_int (fun _ _ => rfl)) pe_non)))) pss_nil)
 (pss_cons (ps_if (pt_cmpR (op_in_kd LD) (pv 1) (pe_glob (v := .ref T.A_LEAF_SORTS) (by rfl) T.g_LEAF_SORTS rfl) rfl) (pss_one (ps_ret (pe_ifExp (pt_not (pt_truth (pv 3) (by intro _; rfl))) (pe_ix ix_kdict (pe_glob (v := .ref T.A_LEAF_SORTS) (by rfl) T.g_LEAF_SORTS rfl) (pv 1) (fun _ _ => rfl)) pe_non))) pss_nil)
 (pss_cons (ps_if (pt_cmpR (op_in_kd SD) (pv 1) (pe_glob (v := .ref T.A_SUMS) (by rfl) T.g_SUMS rfl) rfl) (pss_one (ps_ret (pe_ifExp (pt_val (pe_call G_sum_fits (hr.mono (by first | decide | omega)) (by rfl) T.g_sum_fits T.F_sum_fits.kp T.b_sum_fits .nil pass0 (pa_cons (pv 1) (pa_cons (pv 3) pa_nil)))) (pe_ix ix_kdict (pe_glob (v := .ref T.A_SUMS) (by rfl) T.g_SUMS rfl) (pv 1) (fun _ _ => rfl)) pe_non))) pss_nil)
 (pss_cons (ps_if (pt_cmpR op_in_seq (pv 1) (pe_glob (v := .ref T.A_CONNECTIVES) (by rfl) T.g_CONNECTIVES rfl) rfl) (pss_one (ps_ret (pe_ifExp (pt_val (pe_call G_connective_fits (hr.mono (by first | decide | omega)) (by rfl) T.g_connective_fits T.F_connective_fits.kp T.b_connective_fits .nil pass0 (pa_cons (pv 1) (pa_cons (pv 3) pa_nil)))) (MT.pe_strS (l := [116, 114, 117, 116, 104]) (by decide +kernel)) pe_non))) pss_nil)
 (pss_one (ps_ret (pe_ifExp (pt_val (pe_call G_comparison_fits (hr.mono (by first | decide | omega)) (by rfl) T.g_comparison_fits T.F_comparison_fits.kp T.b_comparison_fits .nil pass0 (pa_cons (pv 1) (pa_cons (pv 3) pa_nil)))) (MT.pe_strS (l := [116, 114, 117, 116, 104]) (by decide +kernel)) pe_non)))))))), ?_⟩
    rcases h with ⟨o, t, ss, fs, f, as, r, la, rfl, sg, hl, hok, hla, h⟩ | ⟨o, op, so, la, val, rfl, hm, hla, h⟩
    · refine Z.w_start (σ' := [some (.ref o), some (.str (S CALL)), some (.str (S f)), some (.ref la), none]) rfl ?_
      unfold CALL
      walk_at "w"
      refine ⟨la, _, rfl, .inl ⟨.inl (.inl hla), fun p hp => ?_⟩⟩
      have sm : Same H (upd H p (.tup (as.map fun l => V.str (S l)))) := same_of (Same.refl _) hp
      have sg2 := sg.same sm
      have ep : upd H p (.tup (as.map fun l => V.str (S l))) p = some (.tup (as.map fun l => V.str (S l))) := upd_same
      generalize upd H p (.tup (as.map fun l => V.str (S l))) = H1 at sm sg2 ep ⊢
      walk_at "w"
      refine w_meth0 sg2.obj rfl (by rfl) ?_
      walk_at "w"
      refine ⟨o, t, ss, fs, S f, as.map S, S r, rfl, sg2, hl, fun a ea => ?_⟩
      rw [List.map_map] at ea
      refine eq_strsT hok (.inl (.inl ep)) (.inl (.inl ea)) ?_
      walk_at "w"
      refine w_meth0 sg2.obj rfl (by rfl) ?_
      walk_at "w"
      exact ⟨o, t, ss, fs, S f, as.map S, S r, rfl, sg2, hl, h _ sm⟩
    · have hne : op ≠ [99, 97, 108, 108] ∧ op ≠ [105, 102] := by
        have : ∀ q ∈ d_LEAF_SORTS, q.1 ≠ [99, 97, 108, 108] ∧ q.1 ≠ [105, 102] := by decide
        exact this _ hm
      obtain ⟨tk, htk⟩ := T.n_LEAF_SORTS _ hm
      have hr3 : ∃ u, RelV (V.str (S so)) u ∧ u = .str (S so) tk := ⟨_, ⟨tk, rfl⟩, rfl⟩
      refine Z.w_start (σ' := [some (.ref o), some (.str (S op)), some val, some (.ref la), none]) rfl ?_
      walk_at "w"
      rw [if_neg (fun z => hne.1 (of_decide_eq_true z))]
      walk_at "w"
      rw [if_neg (fun z => hne.2 (of_decide_eq_true z))]
      walk_at "w"
      refine ⟨S op, _, rfl, rfl, htk, ?_⟩
      rw [show (some (Value.str (S so) tk)).isSome = true from rfl]
      walk_at "w"
      refine ⟨_, .inl ⟨[], .inl (.inl hla), rfl⟩, ?_⟩
      refine Z.w_ibT ?_
      walk_at "w"
      exact ⟨T.A_LEAF_SORTS, S op, .str (S so), rfl, rfl, ⟨lk, ln, _, LD.at_, LD.lit, htk, ⟨tk, rfl⟩⟩, h⟩
end
end L

namespace L
open PySem PySem.Spec PyProof.Rows L2 Z M
open _root_.SX (S S_len S_inj)
/-! make -/
def nkey (op : List Nat) (kv : NestedKey) (ns : List Int) : NestedKey := .tup [.text (S op), kv, .tup (ns.map .num)]
def putB (rs : List BRow) (k : NestedKey) (s : Str) : List BRow := if k ∈ rs.map (·.1) then rs else rs ++ [(k, s)]
theorem numOf_none {rs : List BRow} {k : NestedKey} (h : k ∉ rs.map (·.1)) : numOf rs k = none := by
  unfold numOf
  rw [List.idxOf?_eq_none_iff.mpr h]
  rfl
theorem numOf_some {rs : List BRow} {k : NestedKey} (h : k ∈ rs.map (·.1)) : ∃ i : Nat, (rs.map (·.1)).idxOf? k = some i ∧ numOf rs k = some (.int ((i : Int) + 1)) ∧ ∃ r, rs[i]? = some r ∧ r.1 = k := by
  cases e : (rs.map (·.1)).idxOf? k with
  | none => exact absurd h (List.idxOf?_eq_none_iff.mp e)
  | some i =>
    refine ⟨i, rfl, by unfold numOf; rw [e]; rfl, ?_⟩
    obtain ⟨h1, h2, _⟩ := List.idxOf?_eq_some_iff.mp e
    rw [List.length_map] at h1
    refine ⟨rs[i], List.getElem?_eq_getElem h1, ?_⟩
    rw [List.getElem_map] at h2
    exact h2
theorem numOf_snoc {rs : List BRow} {k j : NestedKey} {s : Str} (h : k ∉ rs.map (·.1)) : numOf (rs ++ [(k, s)]) j = if j = k then some (.int ((rs.length : Int) + 1)) else numOf rs j := by
  unfold numOf
  rw [List.map_append, List.map_singleton]
  have hs : ∀ (l : List NestedKey), k ∉ l → (l ++ [k]).idxOf? j = if j = k then some l.length else l.idxOf? j := by
    intro l hl
    by_cases e : j = k
    · subst e
      rw [if_pos rfl, List.idxOf?_eq_some_iff]
      refine ⟨by simp, by simp, fun m hm z => ?_⟩
      rw [List.getElem_append_left hm] at z
      exact hl (z ▸ List.getElem_mem _)
    · rw [if_neg e]
      cases q : l.idxOf? j with
      | none =>
        rw [List.idxOf?_eq_none_iff] at q ⊢
        rw [List.mem_append, List.mem_singleton]
        exact fun z => z.elim q e
      | some m =>
        rw [List.idxOf?_eq_some_iff] at q ⊢
        obtain ⟨h1, h2, h3⟩ := q
        refine ⟨by simp; omega, by rw [List.getElem_append_left h1]; exact h2, fun n hn => ?_⟩
        rw [List.getElem_append_left (by omega)]
        exact h3 n hn
  rw [hs _ h]
  by_cases e : j = k
  · rw [if_pos e, if_pos e, List.length_map]
    rfl
  · rw [if_neg e, if_neg e]
def MkOk (fs : List FnRow) (rs : List BRow) (op : List Nat) (val : V) (ns : List Int) (s : List Nat) : Prop :=
  (op = CALL ∧ ∃ (f : List Nat) (as : List (List Nat)), val = .str (S f) ∧ fs.lookup (S f) = some (as.map S, S s) ∧ (∀ l ∈ as, PyData.canLay0 (.str (S l)) = true) ∧ ns.length = as.length ∧
    ∀ (j : Nat) (n : Int) (a : List Nat), ns[j]? = some n → as[j]? = some a → ∃ (i : Nat) (r : BRow), n = (i : Int) + 1 ∧ rs[i]? = some r ∧ r.2 = S a) ∨
  ((op, s) ∈ d_LEAF_SORTS ∧ ns = [])
theorem nd_ne {P : Program} {w : World} {H : Hp} {a b : Addr} {kvs : List (NestedKey × V)} {xs : List V} (n : ND.ND P w H a kvs) (e : H b = some (.lst xs)) : b ≠ a := fun z => by
  subst z
  rcases n with ⟨ts, _, e2, _⟩ | ⟨_, e2⟩
  · rw [e] at e2
    have z' : HO.lst xs = HO.ext _ := Option.some.inj e2
    exact nomatch z'
  · rw [e] at e2
    exact nomatch e2
theorem nd_nei {P : Program} {w : World} {H : Hp} {a b C dx : Addr} {kvs : List (NestedKey × V)} {fs : List (Str × V)} (n : ND.ND P w H a kvs) (e : H b = some (.ins C dx fs)) : b ≠ a := fun z => by
  subst z
  rcases n with ⟨ts, _, e2, _⟩ | ⟨_, e2⟩
  · rw [e] at e2
    have z' : HO.ins C dx fs = HO.ext _ := Option.some.inj e2
    exact nomatch z'
  · rw [e] at e2
    exact nomatch e2
theorem nks_nums {H : Hp} : ∀ ns : List Int, ND.nks H (ns.map NestedKey.num) (ns.map V.int)
  | [] => by unfold ND.nks; rfl
  | n :: ns => by
    rw [List.map_cons, List.map_cons]
    unfold ND.nks
    exact ⟨_, _, rfl, by unfold ND.nk; rfl, nks_nums ns⟩
theorem nk_node {H : Hp} {a pa : Addr} {op : List Nat} {kv : NestedKey} {val : V} {ns : List Int} (e : H a = some (.tup [.str (S op), val, .ref pa])) (hv : ND.nk H kv val) (hp : H pa = some (.tup (ns.map V.int))) : ND.nk H (nkey op kv ns) (.ref a) := by
  unfold nkey ND.nk
  refine ⟨a, _, rfl, e, ?_⟩
  unfold ND.nks
  refine ⟨_, _, rfl, by unfold ND.nk; rfl, ?_⟩
  unfold ND.nks
  refine ⟨_, _, rfl, hv, ?_⟩
  unfold ND.nks
  refine ⟨_, _, rfl, ?_, by unfold ND.nks; rfl⟩
  unfold ND.nk
  exact ⟨pa, _, rfl, hp, nks_nums ns⟩
theorem dep_nums : ∀ ns : List Int, NestedKey.depthAll (ns.map NestedKey.num) ≤ 1
  | [] => by simp [NestedKey.depthAll]
  | n :: ns => by
    have := dep_nums ns
    simp only [List.map_cons, NestedKey.depthAll, NestedKey.depth]
    omega
theorem dep_node {op : List Nat} {kv : NestedKey} {ns : List Int} (h : kv.depth ≤ 6) : (nkey op kv ns).depth ≤ 8 := by
  have := dep_nums ns
  unfold nkey
  simp only [NestedKey.depthAll, NestedKey.depth]
  omega
section
variable {P : Program} {w : World} {σ : L2.St} {H : Hp} {Q : VK}
theorem w_ndinF {ty td : TE} (h : ty σ H fun y H1 => td σ H1 fun x H2 => ∃ a b kvs k c, x = .ref a ∧ y = .ref b ∧ ND.ND P w H2 a kvs ∧ ND.nk H2 k (.ref b) ∧ k.depth ≤ 8 ∧ (valV kvs k).isSome = c ∧ Q (.bl c) H2) : ND.tNIn P w false ty td σ H Q := by
  have e : (fun (y : V) (H1 : Hp) => td σ H1 fun x H2 => ∃ a b kvs k c, x = .ref a ∧ y = .ref b ∧ ND.ND P w H2 a kvs ∧ ND.nk H2 k (.ref b) ∧ k.depth ≤ 8 ∧ (valV kvs k).isSome = c ∧ Q (.bl c) H2) = fun y H1 => td σ H1 fun x H2 => ∃ a b kvs k, x = .ref a ∧ y = .ref b ∧ ND.ND P w H2 a kvs ∧ ND.nk H2 k (.ref b) ∧ k.depth ≤ 8 ∧ Q (.bl (valV kvs k).isSome) H2 := by
    funext y H1
    congr 1
    funext x H2
    exact propext ⟨fun ⟨a, b, kvs, k, c, e1, e2, e3, e4, e5, e6, q⟩ => ⟨a, b, kvs, k, e1, e2, e3, e4, e5, by rw [e6]; exact q⟩, fun ⟨a, b, kvs, k, e1, e2, e3, e4, e5, q⟩ => ⟨a, b, kvs, k, _, e1, e2, e3, e4, e5, rfl, q⟩⟩
  rw [e] at h
  exact h
theorem w_ndinT {ty td : TE} (h : ty σ H fun y H1 => td σ H1 fun x H2 => ∃ a b kvs k c, x = .ref a ∧ y = .ref b ∧ ND.ND P w H2 a kvs ∧ ND.nk H2 k (.ref b) ∧ k.depth ≤ 8 ∧ (valV kvs k).isSome = c ∧ Q (.bl (!c)) H2) : ND.tNIn P w true ty td σ H Q := by
  have e : (fun (y : V) (H1 : Hp) => td σ H1 fun x H2 => ∃ a b kvs k c, x = .ref a ∧ y = .ref b ∧ ND.ND P w H2 a kvs ∧ ND.nk H2 k (.ref b) ∧ k.depth ≤ 8 ∧ (valV kvs k).isSome = c ∧ Q (.bl (!c)) H2) = fun y H1 => td σ H1 fun x H2 => ∃ a b kvs k, x = .ref a ∧ y = .ref b ∧ ND.ND P w H2 a kvs ∧ ND.nk H2 k (.ref b) ∧ k.depth ≤ 8 ∧ Q (.bl (!(valV kvs k).isSome)) H2 := by
    funext y H1
    congr 1
    funext x H2
    exact propext ⟨fun ⟨a, b, kvs, k, c, e1, e2, e3, e4, e5, e6, q⟩ => ⟨a, b, kvs, k, e1, e2, e3, e4, e5, by rw [e6]; exact q⟩, fun ⟨a, b, kvs, k, e1, e2, e3, e4, e5, q⟩ => ⟨a, b, kvs, k, _, e1, e2, e3, e4, e5, rfl, q⟩⟩
  rw [e] at h
  exact h
theorem w_ndget {td ty : TE} (h : td σ H fun x H1 => ty σ H1 fun y H2 => ∃ a b kvs k v, x = .ref a ∧ y = .ref b ∧ ND.ND P w H2 a kvs ∧ ND.nk H2 k (.ref b) ∧ k.depth ≤ 8 ∧ valV kvs k = some v ∧ Q v H2) : ND.tNGet P w td ty σ H Q := h
theorem w_ndput {td ty tv : TE} {D : Ends} (h : tv σ H fun v H1 => td σ H1 fun x H2 => ty σ H2 fun y H3 => ∃ a b kvs k, x = .ref a ∧ y = .ref b ∧ ND.ND P w H3 a kvs ∧ ND.nk H3 k (.ref b) ∧ k.depth ≤ 8 ∧ kvs.length < sizeLine ∧ ∀ o, ND.ND P w (upd H3 a o) a (putK kvs k v) → D.nx σ (upd H3 a o)) : ND.sNPut P w td ty tv D σ H := h
end
end L

local macro_rules | `(tactic| walk_at "w1") => `(tactic| first
  | with_reducible refine L.w_ndinF ?_
  | with_reducible refine L.w_ndinT ?_
  | with_reducible refine L.w_ndget ?_
  | with_reducible refine L.w_ndput ?_
  | fail "w1")

namespace L
open PySem PySem.Spec PyProof.Rows L2 Z M
open _root_.SX (S S_len S_inj)
section
variable {P : Program} {w : World} {K : PySem.W.Frag} {mg : Str → Option Value} {base : Heap}
def spMk (P : Program) (w : World) (CB CS : Addr) : Sp := fun vs H Q _ => ∃ (o : Addr) (t : BkO) (us : List Addr) (rs : List BRow) (tg : SgO) (ss : List Str) (fs : List FnRow) (op : List Nat) (val : V) (kv : NestedKey) (ns : List Int) (pa : Addr) (s : List Nat),
  vs = [.ref o, .str (S op), val, .ref pa] ∧ BkAt P w CB H o t us rs ∧ SigAt CS H t.sg tg ss fs ∧ H pa = some (.tup (ns.map V.int)) ∧ ns.length ≤ 50 ∧ rs.length ≤ 500 ∧ ND.nk H kv val ∧ kv.depth ≤ 6 ∧ MkOk fs rs op val ns s ∧
  ∀ H' us' (i : Nat), Ch [t.ln, t.ls, t.dn] H H' → BkAt P w CB H' o t us' (putB rs (nkey op kv ns) (S s)) → numOf (putB rs (nkey op kv ns) (S s)) (nkey op kv ns) = some (.int ((i : Int) + 1)) → Q (.int ((i : Int) + 1)) H'
theorem ok_make (T : Txt K mg) (W : Tw K mg T w) : FnOk P w K mg base CX0 4 T.f_Bank_make T.fd_Bank_make ["self", "op", "value", "parts"] (spMk P w T.C_Bank T.C_Signature) := by
  have G_Signature_knows_function := ok_knowsF (P := P) (w := w) (base := base) T
  have G_Bank_sort_of := ok_sortOf (P := P) (w := w) (base := base) T
  have G_sort_made := ok_sortMade (P := P) (base := base) T W
  have G_parts_kept := ok_parts (P := P) (w := w) (base := base) T
  refine T.F_Bank_make.ok sc_Bank_make (fun vs H Q E h => ?_) (fun cdv A outer s H vs Q E hr h => ?_)
  · obtain ⟨o, t, us, rs, tg, ss, fs, op, val, kv, ns, pa, s, rfl, _⟩ := h
    rfl
  · obtain ⟨o, t, us, rs, tg, ss, fs, op, val, kv, ns, pa, so, rfl, bk, sg, ep, hnl, hrl, hkv, hkd, hmk, h⟩ := h
    have hop : op ∈ w_OPS ∧ op ≠ [101, 113, 117, 97, 108] := by
      rcases hmk with ⟨rfl, _⟩ | ⟨hm, _⟩
      · unfold CALL; decide
      · have : ∀ q ∈ d_LEAF_SORTS, q.1 ∈ w_OPS ∧ q.1 ≠ [101, 113, 117, 97, 108] := by decide
        exact this _ hm
    refine ⟨_, (pss_cons (ps_if (pt_cmpR op_notIn_seq (pv 1) (pe_glob (v := .ref T.A_OPS) (by rfl) T.g_OPS rfl) rfl) (pss_one ps_never) pss_nil)
 (pss_cons (ps_if (PW.pt (pw_and (pt_cmpR op_eq (pv 1) (MT.pe_strS (l := [99, 97, 108, 108]) (by decide +kernel)) (nomark _)) (pw_and1 (pt_not (pt_val (pe_meth (pe_fld (pv 0) rfl) T.cl_Signature T.M_Signature_knows_function G_Signature_knows_function (hr.mono (by first | decide | omega)) T.b_Signature_knows_function .nil pass0 (pa_cons (pv 2) pa_nil))))))) (pss_one ps_never) pss_nil)
 (pss_cons (ps_setLc (i := 4) (own := [("part", 5)]) (g := gName 5) (tt := tYes) (by rfl) sc_Bank_make.nd rfl rfl (sw_true rfl rfl rfl (by decide +kernel)) (pi_tup (pv 3)) (blkOk_by (own := [("part", 5)]) (N := N_Bank_make) (sc := defScope s_Bank_make) (by decide +kernel)) (fun _ _ _ _ _ => pg_name (i := 5) sc_Bank_make.nd rfl (Or.inl rfl)) (fun _ _ _ _ _ => pts_nil) (fun _ _ _ _ _ => (pe_meth (pv 0) T.cl_Bank T.M_Bank_sort_of G_Bank_sort_of (hr.mono (by first | decide | omega)) T.b_Bank_sort_of .nil pass0 (pa_cons (pv 5) pa_nil))))
 (pss_cons (ps_set (i := 6) sc_Bank_make.nd rfl (.inl rfl) (pe_call G_sort_made (hr.mono (by first | decide | omega)) (by rfl) T.g_sort_made T.F_sort_made.kp T.b_sort_made .nil pass0 (pa_cons (pe_fld (pv 0) rfl) (pa_cons (pv 1) (pa_cons (pv 2) (pa_cons (pv 4) pa_nil))))))
 (pss_cons (ps_if (pt_cmpR op_isN (pv 6) pe_non (nomark _)) (pss_one ps_never) pss_nil)
 (pss_cons (ps_set (i := 7) sc_Bank_make.nd rfl (.inl rfl) (pe_tup (pa_cons (pv 1) (pa_cons (pv 2) (pa_cons (pe_call G_parts_kept (hr.mono (by first | decide | omega)) (by rfl) T.g_parts_kept T.F_parts_kept.kp T.b_parts_kept .nil pass0 (pa_cons (pv 1) (pa_cons (pv 3) pa_nil))) pa_nil)))))
 (pss_cons (ps_if (pt_cmp (ND.pc_ndnotin (ND.hu9_of hr) (pv 7) (pe_fld (pv 0) rfl))) (pss_cons (ps_expr (pe_bm PySem.F.plainAttrs_list PySem.F.slot_list_append PySem.F.type_list_append mt_append (pe_fld (pv 0) rfl) (pa_cons (pv 7) pa_nil)))
 (pss_cons (ps_expr (pe_bm PySem.F.plainAttrs_list PySem.F.slot_list_append PySem.F.type_list_append mt_append (pe_fld (pv 0) rfl) (pa_cons (pv 6) pa_nil)))
 (pss_one (ND.ps_ndput (ND.hu9_of hr) (pe_fld (pv 0) rfl) (pv 7) (pe_callB call_len_seq (by rfl) T.m_len (by decide +kernel) (pa_cons (pe_fld (pv 0) rfl) pa_nil)) rfl)))) pss_nil)
 (pss_one (ps_ret (ND.pe_ndget (ND.hu9_of hr) (pe_fld (pv 0) rfl) (pv 7) (fun _ _ => rfl))))))))))), ?_⟩
    refine Z.w_start (σ' := [some (.ref o), some (.str (S op)), some val, some (.ref pa), none, none, none, none]) rfl ?_
    refine seqIf (fun σ' H' => σ' = [some (.ref o), some (.str (S op)), some val, some (.ref pa), none, none, none, none] ∧ H = H') (fun R kk => ?_) ?_
    · walk_at "w"
      refine w_ninS (T.z_OPS _) ?_
      rw [decide_eq_true hop.1]
      walk_at "w"
      exact kk _ _ ⟨rfl, rfl⟩
    rintro _ _ ⟨rfl, rfl⟩
    refine seqIf (fun σ' H' => σ' = [some (.ref o), some (.str (S op)), some val, some (.ref pa), none, none, none, none] ∧ H = H') (fun R kk => ?_) ?_
    · walk_at "w"
      rcases hmk with ⟨rfl, f, as, rfl, hl, _⟩ | ⟨hm, _⟩
      · unfold CALL
        rw [if_pos (decide_eq_true rfl)]
        walk_at "w"
        refine w_fldT T.cl_Bank T.n_Bank_signature bk.obj rfl ?_
        refine ⟨t.sg, tg.dx, _, rfl, sg.obj, rfl, ?_⟩
        walk_at "w"
        refine ⟨t.sg, tg, ss, fs, S f, rfl, sg, ?_⟩
        rw [hl]
        walk_at "w"
        exact kk _ _ ⟨rfl, rfl⟩
      · have hne : op ≠ [99, 97, 108, 108] := by
          have : ∀ q ∈ d_LEAF_SORTS, q.1 ≠ [99, 97, 108, 108] := by decide
          exact this _ hm
        rw [if_neg (fun z => hne (of_decide_eq_true z))]
        walk_at "w"
        exact kk _ _ ⟨rfl, rfl⟩
    rintro _ _ ⟨rfl, rfl⟩
    walk_at "w"
    obtain ⟨sl, hsl, hso, hfin⟩ : ∃ sl : List (List Nat), sl.length = ns.length ∧ (∀ (j : Nat) (n : Int) (a : List Nat), ns[j]? = some n → sl[j]? = some a → ∃ (i : Nat) (r : BRow), n = (i : Int) + 1 ∧ rs[i]? = some r ∧ r.2 = S a) ∧
        ∀ (H1 : Hp) (la : Addr) (Q1 : VK) (E1 : XK), Same H H1 → H1 la = some (.lst (sl.map fun l => V.str (S l))) → (∀ H2, Same H1 H2 → Q1 (.str (S so)) H2) → spSM T.C_Signature [.ref t.sg, .str (S op), val, .ref la] H1 Q1 E1 := by
      rcases hmk with ⟨rfl, f, as, rfl, hl, hok, hlen, hs⟩ | ⟨hm, rfl⟩
      · exact ⟨as, hlen.symm, hs, fun H1 la Q1 E1 sm hla hq => .inl ⟨t.sg, tg, ss, fs, f, as, so, la, rfl, sg.same sm, hl, hok, hla, hq⟩⟩
      · exact ⟨[], rfl, (fun j n a e => by simp at e), fun H1 la Q1 E1 sm hla hq => .inr ⟨t.sg, op, so, la, val, rfl, hm, hla, hq _ (Same.refl _)⟩⟩
    intro D hD
    refine lc_tup (xs := ns.map V.int) (fun i H' => Same H H' ∧ H' D = some (.lst ((sl.take i).map fun l => V.str (S l)))) ⟨same_of (Same.refl _) hD, upd_same⟩ (fun i H' _ q => .inl (.inl (q.1 _ _ ep))) ?_ ?_
    · rintro i x H' hx ⟨sm, eD⟩
      rw [List.getElem?_map] at hx
      obtain ⟨n, hn, rfl⟩ := Option.map_eq_some_iff.mp hx
      have hi := (List.getElem?_eq_some_iff.mp hn).1
      have ha : sl[i]? = some sl[i] := List.getElem?_eq_getElem (by omega)
      obtain ⟨j, r, rfl, hr1, hr2⟩ := hso i n _ hn ha
      refine Z.w_gname (σ' := [some (.ref o), some (.str (S op)), some val, some (.ref pa), none, some (.int ((j : Int) + 1)), none, none]) rfl ⟨rfl, ?_⟩
      walk_at "w"
      refine w_meth0 (sm _ _ bk.obj) rfl (by rfl) ?_
      walk_at "w"
      refine ⟨o, t, us, rs, j, r, rfl, bk.same sm, hr1, ?_⟩
      refine ⟨_, eD, ?_, same_mut sm hD, ?_⟩
      · rw [List.length_map, List.length_take]
        exact Nat.lt_of_le_of_lt (Nat.le_trans (Nat.min_le_right _ _) (by rw [hsl]; exact hnl)) (by decide)
      · rw [upd_same, hr2, List.take_add_one, ha, List.map_append]
        rfl
    · rintro H1 ⟨sm, eD⟩
      rw [List.length_map, ← hsl, List.take_length] at eD
      walk_at "w"
      refine w_fldT T.cl_Bank T.n_Bank_signature (sm _ _ bk.obj) rfl ?_
      walk_at "w"
      refine hfin H1 D _ _ sm eD fun H2 sm2 => ?_
      have smA : Same H H2 := sm.trans sm2
      have bk2 := bk.same smA
      have ep2 := smA _ _ ep
      walk_at "w"
      refine ⟨op, pa, ns, rfl, ep2, hnl, hop.2, fun pk H3 sm3 epk => ?_⟩
      have smB : Same H H3 := smA.trans sm3
      walk_at "w"
      rename_i nd hnd
      have smC : Same H (upd H3 nd (.tup [.str (S op), val, .ref pk])) := same_of smB hnd
      have end_ : upd H3 nd (.tup [.str (S op), val, .ref pk]) nd = some (.tup [.str (S op), val, .ref pk]) := upd_same
      have epk4 : upd H3 nd (.tup [.str (S op), val, .ref pk]) pk = some (.tup (ns.map V.int)) := upd_of hnd epk
      generalize upd H3 nd (.tup [.str (S op), val, .ref pk]) = H4 at smC end_ epk4 ⊢
      have bk4 := bk.same smC
      have hk : ND.nk H4 (nkey op kv ns) (.ref nd) := nk_node end_ (ND.nk_keep (fun b ys e => smC _ _ e) _ _ hkv) epk4
      have hd := dep_node (op := op) (ns := ns) hkd
      obtain ⟨kvs, hn1, hn2, hn3⟩ := bk4.nums
      walk_at "w"
      refine w_fldT T.cl_Bank T.n_Bank__numbers bk4.obj rfl ?_
      by_cases hin : nkey op kv ns ∈ rs.map (·.1)
      · obtain ⟨i, e1, e2, r, e3, e4⟩ := numOf_some hin
        have epb : putB rs (nkey op kv ns) (S so) = rs := if_pos hin
        refine ⟨t.dn, nd, kvs, _, true, rfl, rfl, hn1, hk, hd, by rw [hn3, e2]; rfl, ?_⟩
        walk_at "w"
        refine w_fldT T.cl_Bank T.n_Bank__numbers bk4.obj rfl ?_
        walk_at "w"
        refine ⟨t.dn, nd, kvs, _, _, rfl, rfl, hn1, hk, hd, (hn3 _).trans e2, ?_⟩
        exact h _ us i (Ch.of smC) (by rw [epb]; exact bk4) (by rw [epb]; exact e2)
      · refine ⟨t.dn, nd, kvs, _, false, rfl, rfl, hn1, hk, hd, by rw [hn3, numOf_none hin]; rfl, ?_⟩
        walk_at "w"
        refine w_fldT T.cl_Bank T.n_Bank__nodes bk4.obj rfl ?_
        walk_at "w"
        have hul : us.length ≤ 500 := by rw [bk.len]; exact hrl
        refine Z.w_tyL bk4.ln ?_
        walk_at "w"
        refine Z.w_app bk4.ln (by rw [List.length_map]; omega) ?_
        walk_at "w"
        have n1 : o ≠ t.ln := ne_ins bk4.obj bk4.ln fun _ _ _ e => nomatch e
        have n2 : o ≠ t.ls := ne_ins bk4.obj bk4.ls fun _ _ _ e => nomatch e
        have n3 : t.ln ≠ t.dn := nd_ne hn1 bk4.ln
        have n4 : t.ls ≠ t.dn := nd_ne hn1 bk4.ls
        have n5 : o ≠ t.dn := nd_nei hn1 bk4.obj
        refine w_fldT T.cl_Bank T.n_Bank__sorts (o := o) (by rw [upd_ne n1]; exact bk4.obj) rfl ?_
        have els5 : upd H4 t.ln (.lst (us.map V.ref ++ [.ref nd])) t.ls = some (.lst (rs.map fun r => V.str r.2)) := by rw [upd_ne bk.ne.symm]; exact bk4.ls
        walk_at "w"
        refine Z.w_tyL els5 ?_
        walk_at "w"
        refine Z.w_app els5 (by rw [List.length_map]; omega) ?_
        have H7o : upd (upd H4 t.ln (.lst (us.map V.ref ++ [.ref nd]))) t.ls (.lst ((rs.map fun r => V.str r.2) ++ [.str (S so)])) o = some (.ins T.C_Bank t.dx t.fs) := by rw [upd_ne n2, upd_ne n1]; exact bk4.obj
        have H7n : upd (upd H4 t.ln (.lst (us.map V.ref ++ [.ref nd]))) t.ls (.lst ((rs.map fun r => V.str r.2) ++ [.str (S so)])) t.ln = some (.lst (us.map V.ref ++ [.ref nd])) := by rw [upd_ne bk.ne, upd_same]
        have H7s : upd (upd H4 t.ln (.lst (us.map V.ref ++ [.ref nd]))) t.ls (.lst ((rs.map fun r => V.str r.2) ++ [.str (S so)])) t.ls = some (.lst ((rs.map fun r => V.str r.2) ++ [.str (S so)])) := upd_same
        have H7t : ∀ b ys, H4 b = some (.tup ys) → upd (upd H4 t.ln (.lst (us.map V.ref ++ [.ref nd]))) t.ls (.lst ((rs.map fun r => V.str r.2) ++ [.str (S so)])) b = some (.tup ys) := fun b ys e => by
          rw [upd_ne (fun z => by rw [z, bk4.ls] at e; cases e), upd_ne (fun z => by rw [z, bk4.ln] at e; cases e)]
          exact e
        have H7d : ∀ u, H4 t.dn = some u → upd (upd H4 t.ln (.lst (us.map V.ref ++ [.ref nd]))) t.ls (.lst ((rs.map fun r => V.str r.2) ++ [.str (S so)])) t.dn = some u := fun u e => by
          rw [upd_ne n4.symm, upd_ne n3.symm]
          exact e
        have H7c : Ch [t.ln, t.ls, t.dn] H (upd (upd H4 t.ln (.lst (us.map V.ref ++ [.ref nd]))) t.ls (.lst ((rs.map fun r => V.str r.2) ++ [.str (S so)]))) := ((Ch.of smC).put (by simp)).put (by simp)
        generalize upd (upd H4 t.ln (.lst (us.map V.ref ++ [.ref nd]))) t.ls (.lst ((rs.map fun r => V.str r.2) ++ [.str (S so)])) = H7 at H7o H7n H7s H7t H7d H7c ⊢
        have hn7 : ND.ND P w H7 t.dn kvs := hn1.keep H7d H7t
        have hk7 := ND.nk_keep H7t _ _ hk
        walk_at "w"
        refine w_fldT T.cl_Bank T.n_Bank__nodes H7o rfl ?_
        walk_at "w"
        refine w_fldT T.cl_Bank T.n_Bank__numbers H7o rfl ?_
        walk_at "w"
        have hkl : kvs.length < sizeLine := Nat.lt_of_le_of_lt (by rw [hn2]; exact hrl : kvs.length ≤ 500) (by decide)
        refine ⟨t.dn, nd, kvs, _, rfl, rfl, hn7, hk7, hd, hkl, fun o2 hn8 => ?_⟩
        have H8t : ∀ b ys, H7 b = some (.tup ys) → upd H7 t.dn o2 b = some (.tup ys) := fun b ys e => by
          rw [upd_ne (hn7.not_tup e)]
          exact e
        have hk8 := ND.nk_keep H8t _ _ hk7
        have H8o : upd H7 t.dn o2 o = some (.ins T.C_Bank t.dx t.fs) := by rw [upd_ne n5]; exact H7o
        have H8n : upd H7 t.dn o2 t.ln = some (.lst (us.map V.ref ++ [.ref nd])) := by rw [upd_ne n3]; exact H7n
        have H8s : upd H7 t.dn o2 t.ls = some (.lst ((rs.map fun r => V.str r.2) ++ [.str (S so)])) := by rw [upd_ne n4]; exact H7s
        have H8c : Ch [t.ln, t.ls, t.dn] H (upd H7 t.dn o2) := H7c.put (by simp)
        generalize upd H7 t.dn o2 = H8 at hn8 H8t hk8 H8o H8n H8s H8c ⊢
        have eln : (us.map V.ref ++ [V.ref nd]).length = rs.length + 1 := by rw [List.length_append, List.length_map, bk.len]; rfl
        rw [eln] at hn8
        walk_at "w"
        refine w_fldT T.cl_Bank T.n_Bank__numbers H8o rfl ?_
        walk_at "w"
        refine ⟨t.dn, nd, _, _, _, rfl, rfl, hn8, hk8, hd, by rw [valV_put, if_pos rfl], ?_⟩
        have epb : putB rs (nkey op kv ns) (S so) = rs ++ [(nkey op kv ns, S so)] := if_neg hin
        refine h H8 (us ++ [nd]) rs.length H8c ?_ ?_
        · rw [epb]
          refine ⟨H8o, bk.ne, by rw [List.map_append]; exact H8n, by rw [List.map_append]; exact H8s, by rw [List.length_append, List.length_append, bk.len]; rfl, fun i r a e1 e2 => ?_, _, hn8, ?_, fun k => ?_⟩
          · by_cases hi : i < rs.length
            · rw [List.getElem?_append_left hi] at e1
              rw [List.getElem?_append_left (by rw [bk.len]; exact hi)] at e2
              obtain ⟨g1, g2⟩ := bk4.nk i r a e1 e2
              exact ⟨ND.nk_keep H8t _ _ (ND.nk_keep H7t _ _ g1), g2⟩
            · have hl := (List.getElem?_eq_some_iff.mp e1).1
              rw [List.length_append, List.length_singleton] at hl
              obtain rfl : i = rs.length := by omega
              rw [List.getElem?_append_right (Nat.le_refl _), Nat.sub_self] at e1
              rw [← bk.len, List.getElem?_append_right (Nat.le_refl _), Nat.sub_self] at e2
              obtain rfl := Option.some.inj e1
              obtain rfl := Option.some.inj e2
              exact ⟨hk8, hd⟩
          · rw [putK_new _ ((hn3 _).trans (numOf_none hin)), List.length_append, hn2, List.length_append]
            rfl
          · rw [valV_put, numOf_snoc hin, hn3]
            rfl
        · rw [epb, numOf_snoc hin, if_pos rfl]
end
end L

namespace L
open PySem PySem.Spec PyProof.Rows L2 Z M
open _root_.SX (S S_len S_inj)
section
variable {P : Program} {w : World} {K : PySem.W.Frag} {mg : Str → Option Value} {base : Heap}
abbrev TRUTH : List Nat := [116, 114, 117, 116, 104]
def rs0 : List BRow := [(nkey [116, 114, 117, 101] .none [], S TRUTH), (nkey [102, 97, 108, 115, 101] .none [], S TRUTH)]
theorem key_ne {op op' : List Nat} {k k' : NestedKey} {ns ns' : List Int} (h : op ≠ op') : nkey op k ns ≠ nkey op' k' ns' := fun e => by
  unfold nkey at e
  injection e with e
  injection e with e _
  injection e with e
  exact h (S_inj e)
theorem sigAt_ne {C CB : Addr} {H : Hp} {o x dx : Addr} {t : SgO} {ss : List Str} {fs : List FnRow} (h : SigAt C H o t ss fs) (hx : H x = some (.ins CB dx [])) : x ≠ o := fun e => by
  rw [e, h.obj] at hx
  have z := Option.some.inj hx
  injection z with _ _ z
  exact nomatch z
def spBkInit (P : Program) (w : World) (CB CS : Addr) : Sp := fun vs H Q _ => ∃ (x dx sg : Addr) (tg : SgO) (ss : List Str) (fs : List FnRow), vs = [.ref x, .ref sg] ∧ H x = some (.ins CB dx []) ∧ SigAt CS H sg tg ss fs ∧
  ∀ H' t us, Ch [x] H H' → t.sg = sg → BkAt P w CB H' x t us rs0 → H t.ln = none → H t.ls = none → H t.dn = none → Q .non H'
theorem ok_bkInit (T : Txt K mg) (W : Tw K mg T w) : FnOk P w K mg base CX0 5 T.f_Bank_init T.fd_Bank_init ["self", "signature"] (spBkInit P w T.C_Bank T.C_Signature) := by
  have G_Bank_make := ok_make (P := P) (base := base) T W
  refine T.F_Bank_init.ok sc_Bank_init (fun vs H Q E h => ?_) (fun cdv A outer s H vs Q E hr h => ?_)
  · obtain ⟨x, dx, sg, tg, ss, fs, rfl, _⟩ := h
    rfl
  · obtain ⟨x, dx, sg, tg, ss, fs, rfl, hx, sgA, h⟩ := h
    have nsg := sigAt_ne sgA hx
    refine ⟨_, (pss_cons (ps_fld (pv 0) (pv 1) rfl)
 (pss_cons (ps_fld (pv 0) (pe_lst pa_nil) rfl)
 (pss_cons (ps_fld (pv 0) (pe_lst pa_nil) rfl)
 (pss_cons (ps_fld (pv 0) pe_dnewK rfl)
 (pss_cons (ps_expr (pe_meth (pv 0) T.cl_Bank T.M_Bank_make G_Bank_make (hr.mono (by first | decide | omega)) T.b_Bank_make .nil pass0 (pa_cons (MT.pe_strS (l := [116, 114, 117, 101]) (by decide +kernel)) (pa_cons pe_non (pa_cons (pe_tup pa_nil) pa_nil)))))
 (pss_one (ps_expr (pe_meth (pv 0) T.cl_Bank T.M_Bank_make G_Bank_make (hr.mono (by first | decide | omega)) T.b_Bank_make .nil pass0 (pa_cons (MT.pe_strS (l := [102, 97, 108, 115, 101]) (by decide +kernel)) (pa_cons pe_non (pa_cons (pe_tup pa_nil) pa_nil))))))))))), ?_⟩
    refine Z.w_start (σ' := [some (.ref x), some (.ref sg)]) rfl ?_
    walk_at "w"
    refine w_fld (Z.w_var (v := V.ref sg) rfl (Z.w_var (v := V.ref x) rfl ⟨x, _, dx, [], rfl, hx, T.cl_Bank, T.n_Bank_signature, by decide, ?_⟩))
    walk_at "w"
    refine w_fld (Z.w_lst (Z.w_nil ⟨Nat.zero_le _, fun l1 hl1 => Z.w_var (v := V.ref x) rfl ⟨x, _, dx, _, rfl, upd_of hl1 upd_same, T.cl_Bank, T.n_Bank__nodes, (by show 1 < 1000; decide), ?_⟩⟩))
    have n1 : l1 ≠ x := fun e => by rw [e, upd_same] at hl1; cases hl1
    have f1 : H l1 = none := by rwa [upd_ne n1] at hl1
    walk_at "w"
    refine w_fld (Z.w_lst (Z.w_nil ⟨Nat.zero_le _, fun l2 hl2 => Z.w_var (v := V.ref x) rfl ⟨x, _, dx, _, rfl, upd_of hl2 upd_same, T.cl_Bank, T.n_Bank__sorts, (by show 2 < 1000; decide), ?_⟩⟩))
    have n2 : l2 ≠ x := fun e => by rw [e, upd_same] at hl2; cases hl2
    have n21 : l2 ≠ l1 := fun e => by rw [upd_ne n2, e, upd_same] at hl2; cases hl2
    have f2 : H l2 = none := by rwa [upd_ne n2, upd_ne n21, upd_ne n2] at hl2
    walk_at "w"
    refine w_fld (Z.w_dnew fun l3 hl3 => Z.w_var (v := V.ref x) rfl ⟨x, _, dx, _, rfl, upd_of hl3 upd_same, T.cl_Bank, T.n_Bank__numbers, (by show 3 < 1000; decide), ?_⟩)
    have n3 : l3 ≠ x := fun e => by rw [e, upd_same] at hl3; cases hl3
    have n32 : l3 ≠ l2 := fun e => by rw [upd_ne n3, e, upd_same] at hl3; cases hl3
    have n31 : l3 ≠ l1 := fun e => by rw [upd_ne n3, upd_ne n32, upd_ne n3, e, upd_same] at hl3; cases hl3
    have f3 : H l3 = none := by rwa [upd_ne n3, upd_ne n32, upd_ne n3, upd_ne n31, upd_ne n3] at hl3
    rw [show putF _ (V.ref l3) _ = (BkO.mk dx sg l1 l2 l3).fs from rfl]
    have c5 : Ch [x] H (upd (upd (upd (upd (upd (upd (upd H x (.ins T.C_Bank dx (putF "signature" (V.ref sg) []))) l1 (.lst [])) x (.ins T.C_Bank dx (putF "_nodes" (V.ref l1) (putF "signature" (V.ref sg) [])))) l2 (.lst [])) x (.ins T.C_Bank dx (putF "_sorts" (V.ref l2) (putF "_nodes" (V.ref l1) (putF "signature" (V.ref sg) []))))) l3 (.dK [])) x (.ins T.C_Bank dx (BkO.mk dx sg l1 l2 l3).fs)) :=
      (((((((Ch.refl _ _).put (by simp)).own f1).put (by simp)).own f2).put (by simp)).own f3).put (by simp)
    have o5 : upd (upd (upd (upd (upd (upd (upd H x (.ins T.C_Bank dx (putF "signature" (V.ref sg) []))) l1 (.lst [])) x (.ins T.C_Bank dx (putF "_nodes" (V.ref l1) (putF "signature" (V.ref sg) [])))) l2 (.lst [])) x (.ins T.C_Bank dx (putF "_sorts" (V.ref l2) (putF "_nodes" (V.ref l1) (putF "signature" (V.ref sg) []))))) l3 (.dK [])) x (.ins T.C_Bank dx (BkO.mk dx sg l1 l2 l3).fs) x = some (.ins T.C_Bank dx (BkO.mk dx sg l1 l2 l3).fs) := upd_same
    have a5 : upd (upd (upd (upd (upd (upd (upd H x (.ins T.C_Bank dx (putF "signature" (V.ref sg) []))) l1 (.lst [])) x (.ins T.C_Bank dx (putF "_nodes" (V.ref l1) (putF "signature" (V.ref sg) [])))) l2 (.lst [])) x (.ins T.C_Bank dx (putF "_sorts" (V.ref l2) (putF "_nodes" (V.ref l1) (putF "signature" (V.ref sg) []))))) l3 (.dK [])) x (.ins T.C_Bank dx (BkO.mk dx sg l1 l2 l3).fs) l1 = some (.lst []) := by
      rw [upd_ne n1, upd_ne n31.symm, upd_ne n1, upd_ne n21.symm, upd_ne n1, upd_same]
    have b5 : upd (upd (upd (upd (upd (upd (upd H x (.ins T.C_Bank dx (putF "signature" (V.ref sg) []))) l1 (.lst [])) x (.ins T.C_Bank dx (putF "_nodes" (V.ref l1) (putF "signature" (V.ref sg) [])))) l2 (.lst [])) x (.ins T.C_Bank dx (putF "_sorts" (V.ref l2) (putF "_nodes" (V.ref l1) (putF "signature" (V.ref sg) []))))) l3 (.dK [])) x (.ins T.C_Bank dx (BkO.mk dx sg l1 l2 l3).fs) l2 = some (.lst []) := by
      rw [upd_ne n2, upd_ne n32.symm, upd_ne n2, upd_same]
    have d5 : upd (upd (upd (upd (upd (upd (upd H x (.ins T.C_Bank dx (putF "signature" (V.ref sg) []))) l1 (.lst [])) x (.ins T.C_Bank dx (putF "_nodes" (V.ref l1) (putF "signature" (V.ref sg) [])))) l2 (.lst [])) x (.ins T.C_Bank dx (putF "_sorts" (V.ref l2) (putF "_nodes" (V.ref l1) (putF "signature" (V.ref sg) []))))) l3 (.dK [])) x (.ins T.C_Bank dx (BkO.mk dx sg l1 l2 l3).fs) l3 = some (.dK []) := by
      rw [upd_ne n3, upd_same]
    generalize upd (upd (upd (upd (upd (upd (upd H x (.ins T.C_Bank dx (putF "signature" (V.ref sg) []))) l1 (.lst [])) x (.ins T.C_Bank dx (putF "_nodes" (V.ref l1) (putF "signature" (V.ref sg) [])))) l2 (.lst [])) x (.ins T.C_Bank dx (putF "_sorts" (V.ref l2) (putF "_nodes" (V.ref l1) (putF "signature" (V.ref sg) []))))) l3 (.dK [])) x (.ins T.C_Bank dx (BkO.mk dx sg l1 l2 l3).fs) = H5 at c5 o5 a5 b5 d5 ⊢
    have bk5 : BkAt P w T.C_Bank H5 x ⟨dx, sg, l1, l2, l3⟩ [] [] := ⟨o5, n21.symm, a5, b5, rfl, (fun i r a e => by simp at e), [], .inr ⟨rfl, d5⟩, rfl, fun k => rfl⟩
    obtain ⟨ks, hs, _⟩ := sgA.so
    obtain ⟨kf, hf, _⟩ := sgA.fu
    have nds : x ≠ tg.ds := ne_ins hx hs fun _ _ _ e => nomatch e
    have ndf : x ≠ tg.df := ne_ins hx hf fun _ _ _ e => nomatch e
    have sg5 : SigAt T.C_Signature H5 sg tg ss fs := sgA.ch c5 (fun b hb ys e => by rw [List.mem_singleton.mp hb, hx] at e; cases e) fun b hb => by rw [List.mem_singleton.mp hb]; exact ⟨nsg, nds, ndf⟩
    have m1 : l1 ≠ sg ∧ l1 ≠ tg.ds ∧ l1 ≠ tg.df := ⟨(ne_of_none sgA.obj f1).symm, (ne_of_none hs f1).symm, (ne_of_none hf f1).symm⟩
    have m2 : l2 ≠ sg ∧ l2 ≠ tg.ds ∧ l2 ≠ tg.df := ⟨(ne_of_none sgA.obj f2).symm, (ne_of_none hs f2).symm, (ne_of_none hf f2).symm⟩
    have m3 : l3 ≠ sg ∧ l3 ≠ tg.ds ∧ l3 ≠ tg.df := ⟨(ne_of_none sgA.obj f3).symm, (ne_of_none hs f3).symm, (ne_of_none hf f3).symm⟩
    have c5' : Ch [l1, l2, l3, x] H H5 := c5.sup (by simp)
    walk_at "w"
    refine w_meth0 o5 rfl (by rfl) ?_
    walk_at "w"
    rename_i p1 hp1
    have c6 : Ch [l1, l2, l3, x] H (upd H5 p1 (.tup [])) := c5'.new hp1
    have s6 : Same H5 (upd H5 p1 (.tup [])) := same_of (Same.refl _) hp1
    have e6 : upd H5 p1 (.tup []) p1 = some (.tup []) := upd_same
    generalize upd H5 p1 (.tup []) = H6 at c6 s6 e6 ⊢
    have sg6 := sg5.same s6
    refine ⟨x, ⟨dx, sg, l1, l2, l3⟩, [], [], tg, ss, fs, [116, 114, 117, 101], .non, .none, [], p1, TRUTH, rfl, bk5.same s6, sg6, e6, by decide, by decide, by unfold ND.nk; rfl, by decide, .inr ⟨by decide, rfl⟩, fun H7 us7 i7 c7 bk7 _ => ?_⟩
    have sg7 : SigAt T.C_Signature H7 sg tg ss fs := sg6.ch c7 (fun b hb ys e => by
      have q := bk5.same s6
      rcases List.mem_cons.mp hb with z | hb
      · rw [z, q.ln] at e; cases e
      rcases List.mem_cons.mp hb with z | hb
      · rw [z, q.ls] at e; cases e
      · rw [List.mem_singleton.mp hb, show H6 l3 = some (.dK []) from s6 _ _ d5] at e; cases e) fun b hb => by
      rcases List.mem_cons.mp hb with z | hb
      · rw [z]; exact m1
      rcases List.mem_cons.mp hb with z | hb
      · rw [z]; exact m2
      · rw [List.mem_singleton.mp hb]; exact m3
    have c7' : Ch [l1, l2, l3, x] H H7 := c6.trans (c7.sup (by simp))
    walk_at "w"
    refine w_meth0 bk7.obj rfl (by rfl) ?_
    walk_at "w"
    rename_i p2 hp2
    have s8 : Same H7 (upd H7 p2 (.tup [])) := same_of (Same.refl _) hp2
    have c8 : Ch [l1, l2, l3, x] H (upd H7 p2 (.tup [])) := c7'.new hp2
    have e8 : upd H7 p2 (.tup []) p2 = some (.tup []) := upd_same
    generalize upd H7 p2 (.tup []) = H8 at c8 s8 e8 ⊢
    refine ⟨x, ⟨dx, sg, l1, l2, l3⟩, us7, _, tg, ss, fs, [102, 97, 108, 115, 101], .non, .none, [], p2, TRUTH, rfl, bk7.same s8, sg7.same s8, e8, by decide, by decide, by unfold ND.nk; rfl, by decide, .inr ⟨by decide, rfl⟩, fun H9 us9 i9 c9 bk9 _ => ?_⟩
    have c9' : Ch [l1, l2, l3, x] H H9 := c8.trans (c9.sup (by simp))
    have er : putB (putB [] (nkey [116, 114, 117, 101] .none []) (S TRUTH)) (nkey [102, 97, 108, 115, 101] .none []) (S TRUTH) = rs0 := by
      have e1 : putB [] (nkey [116, 114, 117, 101] .none []) (S TRUTH) = [(nkey [116, 114, 117, 101] .none [], S TRUTH)] := if_neg (by simp)
      rw [e1]
      refine if_neg ?_
      show ¬ _ ∈ [nkey [116, 114, 117, 101] .none []]
      rw [List.mem_singleton]
      exact key_ne (by decide)
    rw [er] at bk9
    refine h H9 ⟨dx, sg, l1, l2, l3⟩ us9 (fun b y n e => ?_) rfl bk9 f1 f2 f3
    refine c9' b y (fun z => ?_) e
    rcases List.mem_cons.mp z with z | z
    · rw [z, f1] at e; cases e
    rcases List.mem_cons.mp z with z | z
    · rw [z, f2] at e; cases e
    rcases List.mem_cons.mp z with z | z
    · rw [z, f3] at e; cases e
    · exact n z
end
end L

namespace L
open PySem PySem.Spec PyProof.Rows L2 Z M
open _root_.SX (S S_len S_inj)
/-! what two calls of one function bring together -/
structure GRow where
  op : List Nat
  kv : NestedKey
  ns : List Int
  so : List Nat
def GRow.b (g : GRow) : BRow := (nkey g.op g.kv g.ns, S g.so)
def rowN (gs : List GRow) (x : Int) : Option GRow := if 1 ≤ x then gs[(x - 1).toNat]? else none
def isNum (gs : List GRow) (x : Int) : Bool := match rowN gs x with
  | some g => decide (g.so ∈ w_NUMBER_SORTS)
  | none => false
def argsN (gs : List GRow) (x : Int) : List Int := match rowN gs x with
  | some g => g.ns
  | none => []
def callN (gs : List GRow) (x : Int) : Option NestedKey := match rowN gs x with
  | some g => if g.op = CALL then some g.kv else none
  | none => none
def imin (i j : Int) : Int := if j < i then j else i
def imax (i j : Int) : Int := if j > i then j else i
def pocL (gs : List GRow) (u v : Int) : List (Int × Int) := (((u, v) :: (argsN gs u).zip (argsN gs v)).filter fun p => decide (p.1 ≠ p.2) && isNum gs p.1).map fun p => (imin p.1 p.2, imax p.1 p.2)
/-- the calls' arguments have the sorts of their function -/
def Wty (fs : List FnRow) (gs : List GRow) : Prop := ∀ (i : Nat) (g : GRow), gs[i]? = some g → g.op = CALL → ∃ (f : List Nat) (as : List (List Nat)), g.kv = .text (S f) ∧ fs.lookup (S f) = some (as.map S, S g.so) ∧ g.ns.length = as.length ∧
  ∀ (j : Nat) (n : Int) (a : List Nat), g.ns[j]? = some n → as[j]? = some a → ∃ (i' : Nat) (g' : GRow), n = (i' : Int) + 1 ∧ gs[i']? = some g' ∧ g'.so = a
theorem rowN_nat {gs : List GRow} (i : Nat) : rowN gs ((i : Int) + 1) = gs[i]? := by
  unfold rowN
  rw [if_pos (by omega), show ((i : Int) + 1 - 1).toNat = i by omega]
theorem map_S_inj : ∀ {as bs : List (List Nat)}, as.map S = bs.map S → as = bs
  | [], [], _ => rfl
  | [], _ :: _, h => by simp at h
  | _ :: _, [], h => by simp at h
  | a :: as, b :: bs, h => by
    rw [List.map_cons, List.map_cons] at h
    injection h with h1 h2
    rw [S_inj h1, map_S_inj h2]
/-- the two agree in sort, number of arguments and sorts of arguments -/
theorem alike_calls {fs : List FnRow} {gs : List GRow} (hw : Wty fs gs) {u v : Int} {k : NestedKey} (hu : callN gs u = some k) (hv : callN gs v = some k) :
    isNum gs u = isNum gs v ∧ (argsN gs u).length = (argsN gs v).length ∧ ∀ (j : Nat) (x y : Int), (argsN gs u)[j]? = some x → (argsN gs v)[j]? = some y → isNum gs x = isNum gs y := by
  have key : ∀ {x : Int}, callN gs x = some k → ∃ (i : Nat) (g : GRow), gs[i]? = some g ∧ rowN gs x = some g ∧ g.op = CALL ∧ g.kv = k := fun {x} h => by
    unfold callN at h
    cases e : rowN gs x with
    | none => rw [e] at h; cases h
    | some g =>
      rw [e] at h
      have h : (if g.op = CALL then some g.kv else none) = some k := h
      by_cases hc : g.op = CALL
      · rw [if_pos hc] at h
        unfold rowN at e
        by_cases h1 : 1 ≤ x
        · rw [if_pos h1] at e
          exact ⟨_, g, e, rfl, hc, Option.some.inj h⟩
        · rw [if_neg h1] at e; cases e
      · rw [if_neg hc] at h; cases h
  obtain ⟨i, g, e1, e2, e3, e4⟩ := key hu
  obtain ⟨j, g', f1, f2, f3, f4⟩ := key hv
  obtain ⟨f, as, a1, a2, a3, a4⟩ := hw i g e1 e3
  obtain ⟨f', as', b1, b2, b3, b4⟩ := hw j g' f1 f3
  have ek : S f = S f' := by
    rw [a1] at e4
    rw [b1] at f4
    rw [← f4] at e4
    injection e4
  rw [← ek, a2] at b2
  have ep := Option.some.inj b2
  injection ep with p1 p2
  have ea := map_S_inj p1
  have es := S_inj p2
  subst ea
  refine ⟨by unfold isNum; rw [e2, f2]; show decide (g.so ∈ w_NUMBER_SORTS) = decide (g'.so ∈ w_NUMBER_SORTS); rw [es], by unfold argsN; rw [e2, f2]; show g.ns.length = g'.ns.length; rw [a3, b3], fun m x y hx hy => ?_⟩
  unfold argsN at hx hy
  rw [e2] at hx
  rw [f2] at hy
  have hm : m < as.length := by
    rw [← a3]
    exact (List.getElem?_eq_some_iff.mp hx).1
  obtain ⟨i1, g1, rfl, c1, c2⟩ := a4 m x _ hx (List.getElem?_eq_getElem hm)
  obtain ⟨i2, g2, rfl, d1, d2⟩ := b4 m y _ hy (List.getElem?_eq_getElem hm)
  unfold isNum
  rw [rowN_nat, rowN_nat, c1, d1]
  show decide (g1.so ∈ w_NUMBER_SORTS) = decide (g2.so ∈ w_NUMBER_SORTS)
  rw [c2, d2]
/-- what is due of two numbers -/
def Meets (gs : List GRow) (a b u v : Int) : Prop := (∃ k, callN gs u = some k ∧ callN gs v = some k) ∧ a < b ∧ isNum gs a = true ∧ ((a = u ∧ b = v) ∨ ∃ j : Nat, (argsN gs u)[j]? = some a ∧ (argsN gs v)[j]? = some b)
theorem mem_poc {gs : List GRow} {u v a b : Int} : (a, b) ∈ pocL gs u v ↔ ∃ x y : Int, (x, y) ∈ (u, v) :: (argsN gs u).zip (argsN gs v) ∧ x ≠ y ∧ isNum gs x = true ∧ a = imin x y ∧ b = imax x y := by
  unfold pocL
  rw [List.mem_map]
  constructor
  · rintro ⟨⟨x, y⟩, h1, h2⟩
    rw [List.mem_filter, Bool.and_eq_true, decide_eq_true_eq] at h1
    injection h2 with h2 h3
    exact ⟨x, y, h1.1, h1.2.1, h1.2.2, h2.symm, h3.symm⟩
  · rintro ⟨x, y, h1, h2, h3, rfl, rfl⟩
    refine ⟨(x, y), ?_, rfl⟩
    rw [List.mem_filter, Bool.and_eq_true, decide_eq_true_eq]
    exact ⟨h1, h2, h3⟩
theorem zip_get {xs ys : List Int} {x y : Int} : (x, y) ∈ xs.zip ys ↔ ∃ j : Nat, xs[j]? = some x ∧ ys[j]? = some y := by
  rw [List.mem_iff_getElem?]
  constructor
  · rintro ⟨j, h⟩
    rw [List.getElem?_zip_eq_some] at h
    exact ⟨j, h⟩
  · rintro ⟨j, h⟩
    exact ⟨j, List.getElem?_zip_eq_some.mpr h⟩
/-- of u below v the program finds just what is due of the two in either order -/
theorem poc_meets {fs : List FnRow} {gs : List GRow} (hw : Wty fs gs) {u v a b : Int} {k : NestedKey} (hu : callN gs u = some k) (hv : callN gs v = some k) : (a, b) ∈ pocL gs u v ↔ Meets gs a b u v ∨ Meets gs a b v u := by
  obtain ⟨s1, s2, s3⟩ := alike_calls hw hu hv
  rw [mem_poc]
  constructor
  · rintro ⟨x, y, h1, h2, h3, rfl, rfl⟩
    unfold imin imax
    have sy : isNum gs y = true := by
      rcases List.mem_cons.mp h1 with e | h1
      · injection e with e1 e2
        rw [e2, ← s1, ← e1]; exact h3
      · obtain ⟨j, j1, j2⟩ := zip_get.mp h1
        rw [← s3 j x y j1 j2]; exact h3
    by_cases hlt : y < x
    · rw [if_pos hlt, if_neg (by omega)]
      refine .inr ⟨⟨k, hv, hu⟩, hlt, sy, ?_⟩
      rcases List.mem_cons.mp h1 with e | h1
      · injection e with e1 e2
        exact .inl ⟨e2, e1⟩
      · obtain ⟨j, j1, j2⟩ := zip_get.mp h1
        exact .inr ⟨j, j2, j1⟩
    · rw [if_neg hlt, if_pos (by omega)]
      refine .inl ⟨⟨k, hu, hv⟩, by omega, h3, ?_⟩
      rcases List.mem_cons.mp h1 with e | h1
      · injection e with e1 e2
        exact .inl ⟨e1, e2⟩
      · exact .inr (zip_get.mp h1)
  · rintro (⟨_, h1, h2, h3⟩ | ⟨_, h1, h2, h3⟩)
    · refine ⟨a, b, ?_, by omega, h2, by unfold imin; rw [if_neg (by omega)], by unfold imax; rw [if_pos (by omega)]⟩
      rcases h3 with ⟨rfl, rfl⟩ | h3
      · exact List.mem_cons_self
      · exact List.mem_cons_of_mem _ (zip_get.mpr h3)
    · have sb : isNum gs b = true := by
        rcases h3 with ⟨rfl, rfl⟩ | ⟨j, j1, j2⟩
        · rw [s1]; exact h2
        · rw [s3 j b a j2 j1]; exact h2
      refine ⟨b, a, ?_, by omega, sb, by unfold imin; rw [if_pos (by omega)], by unfold imax; rw [if_neg (by omega)]⟩
      rcases h3 with ⟨rfl, rfl⟩ | ⟨j, j1, j2⟩
      · exact List.mem_cons_self
      · exact List.mem_cons_of_mem _ (zip_get.mpr ⟨j, j2, j1⟩)
/-! sorted lists without twins -/
theorem lex_eq : ∀ {xs ys : List (Int × Int)}, xs.Nodup → ys.Nodup → xs.Pairwise SDT.lexI → ys.Pairwise SDT.lexI → (∀ p, p ∈ xs ↔ p ∈ ys) → xs = ys
  | [], [], _, _, _, _, _ => rfl
  | [], y :: ys, _, _, _, _, h => absurd ((h y).mpr List.mem_cons_self) (by simp)
  | x :: xs, [], _, _, _, _, h => absurd ((h x).mp List.mem_cons_self) (by simp)
  | x :: xs, y :: ys, n1, n2, p1, p2, h => by
    rw [List.nodup_cons] at n1 n2
    rw [List.pairwise_cons] at p1 p2
    have e : x = y := by
      have a1 : x = y ∨ SDT.lexI y x := by
        rcases List.mem_cons.mp ((h x).mp List.mem_cons_self) with e | m
        · exact .inl e
        · exact .inr (p2.1 x m)
      have a2 : x = y ∨ SDT.lexI x y := by
        rcases List.mem_cons.mp ((h y).mpr List.mem_cons_self) with e | m
        · exact .inl e.symm
        · exact .inr (p1.1 y m)
      rcases a1 with e | a1
      · exact e
      rcases a2 with e | a2
      · exact e
      unfold SDT.lexI at a1 a2
      obtain ⟨x1, x2⟩ := x
      obtain ⟨y1, y2⟩ := y
      simp only at a1 a2
      have : x1 = y1 ∧ x2 = y2 := by omega
      rw [this.1, this.2]
    subst e
    rw [lex_eq n1.2 n2.2 p1.2 p2.2 fun p => ?_]
    constructor
    · intro m
      rcases List.mem_cons.mp ((h p).mp (List.mem_cons_of_mem _ m)) with e | m'
      · subst e; exact absurd m n1.1
      · exact m'
    · intro m
      rcases List.mem_cons.mp ((h p).mpr (List.mem_cons_of_mem _ m)) with e | m'
      · subst e; exact absurd m n2.1
      · exact m'
end L

namespace L
open PySem PySem.Spec PyProof.Rows L2 Z M
open _root_.SX (S S_len S_inj)
section
variable {P : Program} {w : World} {K : PySem.W.Frag} {mg : Str → Option Value} {base : Heap}
theorem w_listZipT {ta : TA} {σ : L2.St} {H : Hp} {Q : VK} (h : ta σ H fun vs H1 => ∃ (a b : Addr) (xs ys : List V), vs = [.ref a, .ref b] ∧ SqT K H1 a xs ∧ SqT K H1 b ys ∧ xs.length = ys.length ∧
  ∀ (q : Addr) (ts : List Addr) (H2 : Hp), H1 q = none → (∀ t ∈ ts, H1 t = none) → q ∉ ts → ts.Nodup → ts.length = xs.length → H2 q = some (.lst (ts.map V.ref)) →
    (∀ (j : Nat) (t : Addr) (x y : V), ts[j]? = some t → xs[j]? = some x → ys[j]? = some y → H2 t = some (.tup [x, y])) → (∀ b, b ≠ q → b ∉ ts → H2 b = H1 b) → Q (.ref q) H2) : ZLT.tListZip K ta σ H Q := h
/-- a list of pairs of ints -/
def PairsV (H : Hp) (ys : List V) (zs : List (Int × Int)) : Prop := ys.length = zs.length ∧ ∀ (i : Nat) (y : V) (z : Int × Int), ys[i]? = some y → zs[i]? = some z → ∃ t, y = .ref t ∧ H t = some (.tup [.int z.1, .int z.2])
theorem PairsV.ch {S : List Addr} {H H' : Hp} {ys : List V} {zs : List (Int × Int)} (h : PairsV H ys zs) (c : Ch S H H') (m : NoTup S H) : PairsV H' ys zs := ⟨h.1, fun i y z e1 e2 => by
  obtain ⟨t, e, e3⟩ := h.2 i y z e1 e2
  exact ⟨t, e, c.tup m e3⟩⟩
theorem PairsV.same {H H' : Hp} {ys : List V} {zs : List (Int × Int)} (h : PairsV H ys zs) (c : Same H H') : PairsV H' ys zs := ⟨h.1, fun i y z e1 e2 => by
  obtain ⟨t, e, e3⟩ := h.2 i y z e1 e2
  exact ⟨t, e, c _ _ e3⟩⟩
theorem PairsV.snoc {H : Hp} {ys : List V} {zs : List (Int × Int)} {t : Addr} {z : Int × Int} (h : PairsV H ys zs) (e : H t = some (.tup [.int z.1, .int z.2])) : PairsV H (ys ++ [.ref t]) (zs ++ [z]) := by
  refine ⟨by rw [List.length_append, List.length_append, h.1]; rfl, fun i y z' e1 e2 => ?_⟩
  by_cases hi : i < zs.length
  · rw [List.getElem?_append_left (by rw [h.1]; exact hi)] at e1
    rw [List.getElem?_append_left hi] at e2
    exact h.2 i y z' e1 e2
  · have hl := (List.getElem?_eq_some_iff.mp e2).1
    rw [List.length_append, List.length_singleton] at hl
    obtain rfl : i = zs.length := by omega
    rw [List.getElem?_append_right (Nat.le_refl _), Nat.sub_self] at e2
    rw [← h.1, List.getElem?_append_right (Nat.le_refl _), Nat.sub_self] at e1
    obtain rfl := Option.some.inj e1
    obtain rfl := Option.some.inj e2
    exact ⟨t, rfl, e⟩
/-- what a node's tuple holds -/
theorem nk_inv {H : Hp} {a : Addr} {op : List Nat} {kv : NestedKey} {ns : List Int} (h : ND.nk H (nkey op kv ns) (.ref a)) : ∃ (val : V) (pa : Addr), H a = some (.tup [.str (S op), val, .ref pa]) ∧ ND.nk H kv val ∧ H pa = some (.tup (ns.map V.int)) := by
  unfold nkey ND.nk at h
  obtain ⟨b, xs, e, e1, h⟩ := h
  cases e
  unfold ND.nks at h
  obtain ⟨v, vs, rfl, h1, h⟩ := h
  unfold ND.nk at h1
  subst h1
  unfold ND.nks at h
  obtain ⟨v, vs, rfl, h2, h⟩ := h
  unfold ND.nks at h
  obtain ⟨v3, vs, rfl, h3, h⟩ := h
  unfold ND.nks at h
  subst h
  unfold ND.nk at h3
  obtain ⟨pa, ys, rfl, h4, h3⟩ := h3
  have all : ∀ (ns : List Int) (ys : List V), ND.nks H (ns.map .num) ys → ys = ns.map V.int := by
    intro ns
    induction ns with
    | nil => intro ys q; unfold ND.nks at q; exact q
    | cons n ns ih =>
      intro ys q
      rw [List.map_cons] at q
      unfold ND.nks at q
      obtain ⟨v, vs, rfl, q1, q2⟩ := q
      unfold ND.nk at q1
      rw [q1, ih _ q2]
      rfl
  rw [all _ _ h3] at h4
  exact ⟨_, pa, e1, h2, h4⟩
theorem BkAt.row {CB : Addr} {H : Hp} {o : Addr} {t : BkO} {us : List Addr} {gs : List GRow} (bk : BkAt P w CB H o t us (gs.map GRow.b)) {i : Nat} {g : GRow} (h : gs[i]? = some g) : ∃ (a : Addr) (val : V) (pa : Addr), us[i]? = some a ∧ H a = some (.tup [.str (S g.op), val, .ref pa]) ∧ ND.nk H g.kv val ∧ H pa = some (.tup (g.ns.map V.int)) := by
  have hi := (List.getElem?_eq_some_iff.mp h).1
  have hu : i < us.length := by rw [bk.len, List.length_map]; exact hi
  obtain ⟨val, pa, e1, e2, e3⟩ := nk_inv (bk.nk i g.b us[i] (by rw [List.getElem?_map, h]; rfl) (List.getElem?_eq_getElem hu)).1
  exact ⟨_, val, pa, List.getElem?_eq_getElem hu, e1, e2, e3⟩
theorem w_catL {a b : Addr} {xs ys : List V} {H : Hp} {Q : VK} (ha : H a = some (.lst xs)) (hb : H b = some (.lst ys)) (hz : xs.length + ys.length ≤ 1000) (q : ∀ c, H c = none → Q (.ref c) (upd H c (.lst (xs ++ ys)))) : rCat (.ref a) (.ref b) H Q := ⟨a, b, xs, ys, rfl, rfl, ha, hb, sz4 hz, q⟩
def pocF (gs : List GRow) (L : List (Int × Int)) : List (Int × Int) := (L.filter fun p => decide (p.1 ≠ p.2) && isNum gs p.1).map fun p => (imin p.1 p.2, imax p.1 p.2)
theorem pocF_snoc (gs : List GRow) (L : List (Int × Int)) (z : Int × Int) : pocF gs (L ++ [z]) = pocF gs L ++ if (decide (z.1 ≠ z.2) && isNum gs z.1) = true then [(imin z.1 z.2, imax z.1 z.2)] else [] := by
  unfold pocF
  rw [List.filter_append, List.map_append]
  congr 1
  by_cases h : (decide (z.1 ≠ z.2) && isNum gs z.1) = true
  · rw [if_pos h, List.filter_cons, if_pos h]
    rfl
  · rw [if_neg h, List.filter_cons, if_neg h]
    rfl
theorem pocF_len (gs : List GRow) (L : List (Int × Int)) : (pocF gs L).length ≤ L.length := by
  unfold pocF
  rw [List.length_map]
  exact List.length_filter_le _ _
/-- the pairs of two calls of one function -/
def spPoc (P : Program) (w : World) (CB : Addr) : Sp := fun vs H Q _ => ∃ (o : Addr) (t : BkO) (us : List Addr) (gs : List GRow) (fs : List FnRow) (i j : Nat) (k : NestedKey), vs = [.ref o, .int ((i : Int) + 1), .int ((j : Int) + 1)] ∧ BkAt P w CB H o t us (gs.map GRow.b) ∧ Wty fs gs ∧
  callN gs ((i : Int) + 1) = some k ∧ callN gs ((j : Int) + 1) = some k ∧ (argsN gs ((i : Int) + 1)).length ≤ 50 ∧ ∀ p ys H', Same H H' → H' p = some (.lst ys) → PairsV H' ys (pocL gs ((i : Int) + 1) ((j : Int) + 1)) → Q (.ref p) H'
theorem ok_poc (T : Txt K mg) : FnOk P w K mg base CX0 3 T.f_pairs_of_calls T.fd_pairs_of_calls ["bank", "u", "v"] (spPoc P w T.C_Bank) := by
  have G_Bank_node := ok_node (P := P) (w := w) (base := base) T
  have G_Bank_sort_of := ok_sortOf (P := P) (w := w) (base := base) T
  refine T.F_pairs_of_calls.ok sc_pairs_of_calls (fun vs H Q E h => ?_) (fun cdv A outer s H vs Q E hr h => ?_)
  · obtain ⟨o, t, us, gs, fs, i, j, k, rfl, _⟩ := h
    rfl
  · obtain ⟨o, t, us, gs, fs, i, j, k, rfl, bk, hw, hu, hv, hl50, h⟩ := h
    obtain ⟨gu, egu⟩ : ∃ g, gs[i]? = some g := by
      unfold callN at hu; rw [rowN_nat] at hu
      cases e : gs[i]? with
      | none => rw [e] at hu; cases hu
      | some g => exact ⟨g, rfl⟩
    obtain ⟨gv, egv⟩ : ∃ g, gs[j]? = some g := by
      unfold callN at hv; rw [rowN_nat] at hv
      cases e : gs[j]? with
      | none => rw [e] at hv; cases hv
      | some g => exact ⟨g, rfl⟩
    obtain ⟨a1, a2, a3⟩ := alike_calls hw hu hv
    have eau : argsN gs ((i : Int) + 1) = gu.ns := by unfold argsN; rw [rowN_nat, egu]
    have eav : argsN gs ((j : Int) + 1) = gv.ns := by unfold argsN; rw [rowN_nat, egv]
    obtain ⟨au, valu, pu, u1, u2, u3, u4⟩ := bk.row egu
    obtain ⟨av, valv, pbv, v1, v2, v3, v4⟩ := bk.row egv
    refine ⟨_, (pss_cons (ps_set (i := 3) sc_pairs_of_calls.nd rfl (.inl rfl) (pe_op op_cat (pe_lst (pa_cons (pe_tup (pa_cons (pv 1) (pa_cons (pv 2) pa_nil))) pa_nil)) (ZLT.pe_listZip rfl (by rfl) T.m_list (by rfl) T.m_zip (pa_cons (pe_ix ix_tup (pe_meth (pv 0) T.cl_Bank T.M_Bank_node G_Bank_node (hr.mono (by first | decide | omega)) T.b_Bank_node .nil pass0 (pa_cons (pv 1) pa_nil)) pe_int (fun _ _ => rfl)) (pa_cons (pe_ix ix_tup (pe_meth (pv 0) T.cl_Bank T.M_Bank_node G_Bank_node (hr.mono (by first | decide | omega)) T.b_Bank_node .nil pass0 (pa_cons (pv 2) pa_nil)) pe_int (fun _ _ => rfl)) pa_nil)))))
 (pss_one (ps_ret (pe_lc (own := [("x", 4), ("y", 5)]) (g := gTup K 2 (gCons (gName 4) (gCons (gName 5) gNil))) (by rfl) sc_pairs_of_calls.nd (pi_list (pv 3)) (blkOk_by (own := [("x", 4), ("y", 5)]) (N := N_pairs_of_calls) (sc := defScope s_pairs_of_calls) (by decide +kernel)) (fun _ _ _ _ _ => pg_tup (by rfl) (pgs_cons (pg_name (i := 4) sc_pairs_of_calls.nd rfl (Or.inl rfl)) (pgs_cons (pg_name (i := 5) sc_pairs_of_calls.nd rfl (Or.inl rfl)) pgs_nil))) (fun _ _ _ _ _ => pts_one (PW.pt (pw_and (pt_cmpR op_ne (pv 4) (pv 5) (nomark _)) (pw_and1 (pt_cmpR (show OpR _ _ (rIn K false) from op_in_seq) (pe_meth (pv 0) T.cl_Bank T.M_Bank_sort_of G_Bank_sort_of (hr.mono (by first | decide | omega)) T.b_Bank_sort_of .nil pass0 (pa_cons (pv 4) pa_nil)) (pe_glob (v := .ref T.A_NUMBER_SORTS) (by rfl) T.g_NUMBER_SORTS rfl) rfl))))) (fun _ _ _ _ _ => (pe_tup (pa_cons (pe_callB (call_min2 rfl) (by rfl) T.m_min (by decide +kernel) (pa_cons (pv 4) (pa_cons (pv 5) pa_nil))) (pa_cons (pe_callB (call_max2 rfl) (by rfl) T.m_max (by decide +kernel) (pa_cons (pv 4) (pa_cons (pv 5) pa_nil))) pa_nil)))))))), ?_⟩
    refine Z.w_start (σ' := [some (.ref o), some (.int ((i : Int) + 1)), some (.int ((j : Int) + 1)), none, none, none]) rfl ?_
    walk_at "w"
    rename_i pt hpt pl hpl
    have s1 : Same H (upd (upd H pt (.tup [.int ((i : Int) + 1), .int ((j : Int) + 1)])) pl (.lst [.ref pt])) := same_of (same_of (Same.refl _) hpt) hpl
    have ept : upd (upd H pt (.tup [.int ((i : Int) + 1), .int ((j : Int) + 1)])) pl (.lst [.ref pt]) pt = some (.tup [.int ((i : Int) + 1), .int ((j : Int) + 1)]) := upd_of hpl upd_same
    have epl : upd (upd H pt (.tup [.int ((i : Int) + 1), .int ((j : Int) + 1)])) pl (.lst [.ref pt]) pl = some (.lst [.ref pt]) := upd_same
    generalize upd (upd H pt (.tup [.int ((i : Int) + 1), .int ((j : Int) + 1)])) pl (.lst [.ref pt]) = H1 at s1 ept epl ⊢
    have bk1 := bk.same s1
    have u2' := s1 _ _ u2
    have v2' := s1 _ _ v2
    refine w_listZipT ?_
    walk_at "w"
    refine w_meth0 bk1.obj rfl (by rfl) ?_
    walk_at "w"
    refine ⟨o, t, us, _, i, au, rfl, bk1, u1, ?_⟩
    walk_at "w"
    refine w_meth0 bk1.obj rfl (by rfl) ?_
    walk_at "w"
    refine ⟨o, t, us, _, j, av, rfl, bk1, v1, ?_⟩
    walk_at "w"
    have hlen : gu.ns.length = gv.ns.length := by rw [← eau, ← eav]; exact a2
    rw [eau] at hl50
    refine ⟨pu, pbv, _, _, rfl, .inl (.inl (s1 _ _ u4)), .inl (.inl (s1 _ _ v4)), by rw [List.length_map, List.length_map, hlen], fun q ts H2 fq fts nq nd lts eq eT eO => ?_⟩
    rw [List.length_map] at lts
    have s2 : Same H1 H2 := fun b x e => by
      rw [eO b (fun z => by rw [z, fq] at e; cases e) (fun z => by rw [fts b z] at e; cases e)]
      exact e
    have hL : (((i : Int) + 1, (j : Int) + 1) :: gu.ns.zip gv.ns).length = gu.ns.length + 1 := by rw [List.length_cons, List.length_zip, hlen, Nat.min_self]
    refine w_catL (s2 _ _ epl) eq (by rw [List.length_map, lts]; show 1 + gu.ns.length ≤ 1000; omega) fun c hc => ?_
    have pv2 : PairsV (upd H2 c (.lst ([V.ref pt] ++ ts.map V.ref))) ([V.ref pt] ++ ts.map V.ref) (((i : Int) + 1, (j : Int) + 1) :: gu.ns.zip gv.ns) := by
      refine ⟨by rw [hL, List.length_append, List.length_map, lts]; show 1 + gu.ns.length = _; omega, fun m y z e1 e2 => ?_⟩
      cases m with
      | zero =>
        obtain rfl := Option.some.inj (show some (V.ref pt) = some y from e1)
        obtain rfl := Option.some.inj (show some _ = some z from e2)
        exact ⟨pt, rfl, upd_of hc (s2 _ _ ept)⟩
      | succ m =>
        have e1 : (ts.map V.ref)[m]? = some y := e1
        have e2 : (gu.ns.zip gv.ns)[m]? = some z := e2
        rw [List.getElem?_map] at e1
        obtain ⟨tt, e3, rfl⟩ := Option.map_eq_some_iff.mp e1
        obtain ⟨e4, e5⟩ := List.getElem?_zip_eq_some.mp e2
        exact ⟨tt, rfl, upd_of hc (eT m tt _ _ e3 (by rw [List.getElem?_map, e4]; rfl) (by rw [List.getElem?_map, e5]; rfl))⟩
    have s3 : Same H (upd H2 c (.lst ([V.ref pt] ++ ts.map V.ref))) := same_of (s1.trans s2) hc
    have ec : upd H2 c (.lst ([V.ref pt] ++ ts.map V.ref)) c = some (.lst ([V.ref pt] ++ ts.map V.ref)) := upd_same
    generalize upd H2 c (.lst ([V.ref pt] ++ ts.map V.ref)) = H3 at pv2 s3 ec ⊢
    generalize hXS : [V.ref pt] ++ ts.map V.ref = XS at pv2 ec
    have hnum : ∀ z ∈ ((i : Int) + 1, (j : Int) + 1) :: gu.ns.zip gv.ns, ∃ (m : Nat) (g : GRow), z.1 = (m : Int) + 1 ∧ gs[m]? = some g := fun z hz => by
      rcases List.mem_cons.mp hz with rfl | hz
      · exact ⟨i, gu, rfl, egu⟩
      · obtain ⟨z1, z2⟩ := z
        obtain ⟨m, m1, m2⟩ := zip_get.mp hz
        have hop : gu.op = CALL := by
          unfold callN at hu; rw [rowN_nat, egu] at hu
          by_cases hc : gu.op = CALL
          · exact hc
          · have hu' : (if gu.op = CALL then some gu.kv else none) = some k := hu
            rw [if_neg hc] at hu'
            cases hu'
        obtain ⟨f, as, b1, b2, b3, b4⟩ := hw i gu egu hop
        have hm : m < as.length := by rw [← b3]; exact (List.getElem?_eq_some_iff.mp m1).1
        obtain ⟨i', g', c1, c2, c3⟩ := b4 m z1 _ m1 (List.getElem?_eq_getElem hm)
        exact ⟨i', g', c1, c2⟩
    generalize hLL : ((i : Int) + 1, (j : Int) + 1) :: gu.ns.zip gv.ns = LL at pv2 hL hnum
    have hpoc : pocL gs ((i : Int) + 1) ((j : Int) + 1) = pocF gs LL := by
      unfold pocL pocF
      rw [eau, eav, hLL]
    walk_at "w"
    intro D hD
    refine lc_list (xs := XS) (fun m H' => Same H3 H' ∧ ∃ ys, H' D = some (.lst ys) ∧ PairsV H' ys (pocF gs (LL.take m))) ⟨same_of (Same.refl _) hD, [], upd_same, rfl, fun i y z e _ => by simp at e⟩ (fun m H' _ q => .inl (.inl (q.1 _ _ ec))) ?_ ?_
    · rintro m x H' hx ⟨sm, ys, eD, pvD⟩
      have hm : m < LL.length := by rw [← pv2.1]; exact (List.getElem?_eq_some_iff.mp hx).1
      obtain ⟨tt, rfl, ett⟩ := pv2.2 m x LL[m] hx (List.getElem?_eq_getElem hm)
      obtain ⟨n, g, en, eg⟩ := hnum LL[m] (List.getElem_mem hm)
      have etake : LL.take (m + 1) = LL.take m ++ [LL[m]] := by rw [List.take_add_one, List.getElem?_eq_getElem hm]; rfl
      have ysl : ys.length ≤ 1000 := by
        rw [pvD.1]
        exact Nat.le_trans (pocF_len _ _) (by rw [List.length_take]; omega)
      generalize LL[m] = z at ett en etake ⊢
      have ett' := sm _ _ ett
      have s3m : Same H H' := s3.trans sm
      have bkm := bk.same s3m
      refine Z.w_gtupH ett' rfl ?_
      refine Z.w_gcons ?_
      refine Z.w_gname (σ' := [some (.ref o), some (.int ((i : Int) + 1)), some (.int ((j : Int) + 1)), some (.ref c), some (.int z.1), none]) rfl ?_
      refine Z.w_gcons ?_
      refine Z.w_gname (σ' := [some (.ref o), some (.int ((i : Int) + 1)), some (.int ((j : Int) + 1)), some (.ref c), some (.int z.1), some (.int z.2)]) rfl ?_
      refine Z.w_gnil ⟨rfl, ?_⟩
      rw [etake, pocF_snoc]
      walk_at "w"
      by_cases hz : z.1 = z.2
      · rw [decide_eq_true hz]
        walk_at "w"
        rw [decide_eq_false (fun h => h hz)]
        refine ⟨sm, ys, eD, ?_⟩
        rw [Bool.false_and, if_neg (by decide), List.append_nil]
        exact pvD
      · rw [decide_eq_false hz]
        walk_at "w"
        refine w_meth0 bkm.obj rfl (by rfl) ?_
        walk_at "w"
        refine ⟨o, t, us, _, n, g.b, by rw [en]; rfl, bkm, by rw [List.getElem?_map, eg]; rfl, ?_⟩
        walk_at "w"
        refine w_inS (T.z_NUMBER_SORTS _) ?_
        have eis : isNum gs z.1 = decide (g.so ∈ w_NUMBER_SORTS) := by
          unfold isNum
          rw [en, rowN_nat, eg]
        rw [decide_eq_true (show z.1 ≠ z.2 from hz), Bool.true_and, eis]
        refine ⟨_, rfl, ?_⟩
        by_cases hb : g.so ∈ w_NUMBER_SORTS
        · rw [decide_eq_true hb, if_pos rfl, if_pos rfl]
          walk_at "w"
          rename_i q hq
          refine ⟨ys, upd_of hq eD, Nat.lt_of_le_of_lt ysl (by decide), same_mut (same_of sm hq) hD, _, upd_same, ?_⟩
          have nqD : q ≠ D := fun z => by rw [z, eD] at hq; cases hq
          have pv' : PairsV (upd H' q (.tup [.int (imin z.1 z.2), .int (imax z.1 z.2)])) ys (pocF gs (LL.take m)) := pvD.same (same_of (Same.refl _) hq)
          have pv3 := pv'.snoc (t := q) (z := (imin z.1 z.2, imax z.1 z.2)) upd_same
          refine ⟨pv3.1, fun a y z' e1 e2 => ?_⟩
          obtain ⟨t', e3, e4⟩ := pv3.2 a y z' e1 e2
          refine ⟨t', e3, ?_⟩
          rw [upd_ne (fun z => by rw [z] at e4; rw [upd_ne nqD.symm, eD] at e4; cases e4)]
          exact e4
        · rw [decide_eq_false hb, if_neg (by decide), if_neg (by decide), List.append_nil]
          exact ⟨sm, ys, eD, pvD⟩
    · rintro H' ⟨sm, ys, eD, pvD⟩
      rw [pv2.1, List.take_length, ← hpoc] at pvD
      exact h D ys H' (s3.trans sm) eD pvD
end
end L

namespace L
open PySem PySem.Spec PyProof.Rows L2 Z M
open _root_.SX (S S_len S_inj)
/-! meeting_pairs -/
def isC (gs : List GRow) (f : List Nat) (x : Int) : Bool := decide (callN gs x = some (.text (S f)))
abbrev Ent := List Nat × Addr
def entK (es : List Ent) : List (Key × V) := es.map fun e => (Sum.inr (S e.1), V.ref e.2)
theorem entK_val {es : List Ent} {f : List Nat} : valV (entK es) (Sum.inr (S f)) = (es.lookup f).map V.ref := by
  induction es with
  | nil => rfl
  | cons e es ih =>
    obtain ⟨g, a⟩ := e
    show valV ((Sum.inr (S g), V.ref a) :: entK es) _ = _
    by_cases h : g = f
    · subst h
      rw [valV_pos rfl, List.lookup_cons, beq_self_eq_true]
      rfl
    · rw [valV_neg (fun z => h (S_inj (Sum.inr.inj z))), ih, List.lookup_cons, beq_eq_false_iff_ne.mpr (fun z => h z.symm)]
theorem lookup_mem {es : List Ent} {f : List Nat} {a : Addr} (h : es.lookup f = some a) : (f, a) ∈ es := by
  induction es with
  | nil => cases h
  | cons e es ih =>
    obtain ⟨g, b⟩ := e
    rw [List.lookup_cons] at h
    cases hb : (f == g) with
    | true =>
      rw [hb] at h
      obtain rfl := eq_of_beq hb
      obtain rfl := Option.some.inj h
      exact List.mem_cons_self
    | false =>
      rw [hb] at h
      exact List.mem_cons_of_mem _ (ih h)
theorem lookup_none {es : List Ent} {f : List Nat} (h : es.lookup f = none) : f ∉ es.map (·.1) := by
  induction es with
  | nil => simp
  | cons e es ih =>
    obtain ⟨g, b⟩ := e
    rw [List.lookup_cons] at h
    cases hb : (f == g) with
    | true => rw [hb] at h; cases h
    | false =>
      rw [hb] at h
      rw [List.map_cons, List.mem_cons, not_or]
      exact ⟨(fun z => by rw [z, beq_self_eq_true] at hb; cases hb), ih h⟩
/-- the calls by their function, after some numbers -/
structure CallsI (gs : List GRow) (H0 H : Hp) (dc : Addr) (pn : List Int) (es : List Ent) : Prop where
  d : H dc = some (.dK (entK es))
  nf : (es.map (·.1)).Nodup
  na : (es.map (·.2)).Nodup
  ls : ∀ e ∈ es, H e.2 = some (.lst ((pn.filter (isC gs e.1)).map V.int)) ∧ H0 e.2 = none
  al : ∀ x ∈ pn, ∀ f, callN gs x = some (.text (S f)) → f ∈ es.map (·.1)
theorem isC_other {gs : List GRow} {f g : List Nat} {x : Int} (h : callN gs x = some (.text (S f))) (n : g ≠ f) : isC gs g x = false := by
  unfold isC
  rw [h]
  refine decide_eq_false fun z => n ?_
  have z := Option.some.inj z
  injection z with z
  exact (S_inj z).symm
theorem CallsI.skip {gs : List GRow} {H0 H : Hp} {dc : Addr} {pn : List Int} {es : List Ent} {x : Int} (c : CallsI gs H0 H dc pn es) (h : ∀ f, callN gs x ≠ some (.text (S f))) : CallsI gs H0 H dc (pn ++ [x]) es := by
  refine ⟨c.d, c.nf, c.na, fun e he => ?_, fun y hy f hf => ?_⟩
  · obtain ⟨h1, h2⟩ := c.ls e he
    refine ⟨?_, h2⟩
    rw [List.filter_append, List.filter_cons, if_neg (by unfold isC; rw [decide_eq_false (h _)]; decide), List.filter_nil, List.append_nil]
    exact h1
  · rcases List.mem_append.mp hy with hy | hy
    · exact c.al y hy f hf
    · rw [List.mem_singleton.mp hy] at hf
      exact absurd hf (h f)
theorem CallsI.add {gs : List GRow} {H0 H : Hp} {dc : Addr} {pn : List Int} {es : List Ent} {x : Int} {f : List Nat} {a : Addr} (c : CallsI gs H0 H dc pn es) (h : callN gs x = some (.text (S f))) (ha : (f, a) ∈ es) : CallsI gs H0 (upd H a (.lst ((pn.filter (isC gs f)).map V.int ++ [.int x]))) dc (pn ++ [x]) es := by
  have hda : dc ≠ a := fun z => by
    have := (c.ls _ ha).1
    rw [← z, c.d] at this
    cases this
  refine ⟨(upd_ne hda).trans c.d, c.nf, c.na, fun e he => ?_, fun y hy g hg => ?_⟩
  · obtain ⟨h1, h2⟩ := c.ls e he
    refine ⟨?_, h2⟩
    by_cases hf : e.1 = f
    · have hea : e.2 = a := by
        have n1 := c.nf
        obtain ⟨i, hi⟩ := List.mem_iff_getElem?.mp he
        obtain ⟨j, hj⟩ := List.mem_iff_getElem?.mp ha
        have hi' := (List.getElem?_eq_some_iff.mp hi)
        have hj' := (List.getElem?_eq_some_iff.mp hj)
        obtain ⟨hi1, hi2⟩ := hi'
        obtain ⟨hj1, hj2⟩ := hj'
        have hij : i = j := by
          rw [List.nodup_iff_pairwise_ne, List.pairwise_iff_getElem] at n1
          rcases Nat.lt_trichotomy i j with q | q | q
          · exact absurd (by rw [List.getElem_map, List.getElem_map, hi2, hj2]; exact hf) (n1 i j (by rw [List.length_map]; exact hi1) (by rw [List.length_map]; exact hj1) q)
          · exact q
          · exact absurd (by rw [List.getElem_map, List.getElem_map, hi2, hj2]; exact hf.symm) (n1 j i (by rw [List.length_map]; exact hj1) (by rw [List.length_map]; exact hi1) q)
        subst hij
        rw [hi2] at hj2
        rw [hj2]
      rw [hea, upd_same, hf, List.filter_append, List.filter_cons, if_pos (by unfold isC; exact decide_eq_true h), List.filter_nil, List.map_append]
      rfl
    · have hea : e.2 ≠ a := fun z => by
        have n1 := c.na
        obtain ⟨i, hi⟩ := List.mem_iff_getElem?.mp he
        obtain ⟨j, hj⟩ := List.mem_iff_getElem?.mp ha
        obtain ⟨hi1, hi2⟩ := (List.getElem?_eq_some_iff.mp hi)
        obtain ⟨hj1, hj2⟩ := (List.getElem?_eq_some_iff.mp hj)
        rw [List.nodup_iff_pairwise_ne, List.pairwise_iff_getElem] at n1
        rcases Nat.lt_trichotomy i j with q | q | q
        · exact absurd (by rw [List.getElem_map, List.getElem_map, hi2, hj2]; exact z) (n1 i j (by rw [List.length_map]; exact hi1) (by rw [List.length_map]; exact hj1) q)
        · subst q
          rw [hi2] at hj2
          exact hf (by rw [hj2])
        · exact absurd (by rw [List.getElem_map, List.getElem_map, hi2, hj2]; exact z.symm) (n1 j i (by rw [List.length_map]; exact hj1) (by rw [List.length_map]; exact hi1) q)
      rw [upd_ne hea, List.filter_append, List.filter_cons, if_neg (by rw [isC_other h hf]; decide), List.filter_nil, List.append_nil]
      exact h1
  · rcases List.mem_append.mp hy with hy | hy
    · exact c.al y hy g hg
    · rw [List.mem_singleton.mp hy, h] at hg
      have z := Option.some.inj hg
      injection z with z
      rw [← S_inj z]
      exact List.mem_map.mpr ⟨_, ha, rfl⟩
theorem CallsI.same {gs : List GRow} {H0 H H' : Hp} {dc : Addr} {pn : List Int} {es : List Ent} (c : CallsI gs H0 H dc pn es) (s : Same H H') : CallsI gs H0 H' dc pn es := ⟨s _ _ c.d, c.nf, c.na, fun e he => ⟨s _ _ (c.ls e he).1, (c.ls e he).2⟩, c.al⟩
/-- a function that is new -/
theorem CallsI.fresh {gs : List GRow} {H0 H : Hp} {dc : Addr} {pn : List Int} {es : List Ent} {f : List Nat} {a : Addr} (c : CallsI gs H0 H dc pn es) (hf : f ∉ es.map (·.1)) (ha : H a = none) (h0 : H0 a = none) :
    CallsI gs H0 (upd (upd H a (.lst [])) dc (.dK (entK (es ++ [(f, a)])))) dc pn (es ++ [(f, a)]) := by
  have hn : pn.filter (isC gs f) = [] := by
    rw [List.filter_eq_nil_iff]
    intro x hx
    unfold isC
    rw [decide_eq_true_eq]
    exact fun z => hf (c.al x hx f z)
  have hda : a ≠ dc := fun z => by rw [z, c.d] at ha; cases ha
  refine ⟨upd_same, ?_, ?_, fun e he => ?_, fun x hx g hg => by rw [List.map_append]; exact List.mem_append.mpr (.inl (c.al x hx g hg))⟩
  · rw [List.map_append, List.nodup_append]
    refine ⟨c.nf, by simp, fun x hx y hy e => ?_⟩
    obtain rfl : y = f := by simpa using hy
    subst e
    exact hf hx
  · rw [List.map_append, List.nodup_append]
    refine ⟨c.na, by simp, fun x hx y hy e => ?_⟩
    obtain rfl : y = a := by simpa using hy
    subst e
    obtain ⟨e0, he, rfl⟩ := List.mem_map.mp hx
    rw [(c.ls e0 he).1] at ha
    cases ha
  · rcases List.mem_append.mp he with he | he
    · obtain ⟨h1, h2⟩ := c.ls e he
      refine ⟨?_, h2⟩
      rw [upd_ne (ne_ld h1 c.d)]
      exact upd_of ha h1
    · obtain rfl := List.mem_singleton.mp he
      exact ⟨by rw [upd_ne hda, upd_same, hn]; rfl, h0⟩
/-- the dict of the pairs: its keys are those of L -/
def PD (H : Hp) (dp : Addr) (L : List (Int × Int)) : Prop := ∃ (kvs : List (List Key × V)) (ks : List (Int × Int)), H dp = some (.dT kvs) ∧ kvs.map (·.1) = ks.map SDT.ik ∧ ks.Nodup ∧ (∀ p, p ∈ ks ↔ p ∈ L) ∧ kvs.length ≤ L.length
theorem ik_inj {p q : Int × Int} (h : SDT.ik p = SDT.ik q) : p = q := by
  unfold SDT.ik at h
  injection h with h1 h2
  injection h2 with h2 _
  obtain ⟨a, b⟩ := p
  obtain ⟨c, d⟩ := q
  have e1 : a = c := Sum.inl.inj h1
  have e2 : b = d := Sum.inl.inj h2
  rw [e1, e2]
theorem PD.put {H : Hp} {dp : Addr} {L : List (Int × Int)} (h : PD H dp L) (p : Int × Int) (v : V) (hl : L.length < sizeLine) : ∃ kvs, H dp = some (.dT kvs) ∧ kvs.length < sizeLine ∧ PD (upd H dp (.dT (putK kvs (SDT.ik p) v))) dp (L ++ [p]) := by
  obtain ⟨kvs, ks, h1, h2, h3, h4, h5⟩ := h
  refine ⟨kvs, h1, Nat.lt_of_le_of_lt h5 hl, ?_⟩
  have hmem : ∀ q, SDT.ik q ∈ kvs.map (·.1) ↔ q ∈ ks := fun q => by
    rw [h2, List.mem_map]
    constructor
    · rintro ⟨z, z1, z2⟩
      rw [← ik_inj z2]; exact z1
    · intro z
      exact ⟨q, z, rfl⟩
  have hlen := length_putK kvs (SDT.ik p) v
  cases hv : valV kvs (SDT.ik p) with
  | none =>
    have hnot : p ∉ ks := fun z => valV_not hv ((hmem p).mpr z)
    refine ⟨_, ks ++ [p], upd_same, ?_, ?_, fun q => ?_, by rw [List.length_append]; simp; omega⟩
    · rw [putK_new _ hv, List.map_append, List.map_append, h2]
      rfl
    · rw [List.nodup_append]
      refine ⟨h3, by simp, fun x hx y hy e => ?_⟩
      obtain rfl : y = p := by simpa using hy
      subst e
      exact hnot hx
    · rw [List.mem_append, List.mem_append, h4]
  | some v0 =>
    have hin : p ∈ ks := (hmem p).mp (valV_in hv)
    refine ⟨_, ks, upd_same, ?_, h3, fun q => ?_, by rw [List.length_append]; simp; omega⟩
    · have ep : putK kvs (SDT.ik p) v = kvs.map fun kv => if kv.1 = SDT.ik p then (kv.1, v) else kv := by
        unfold putK
        rw [valV_any, hv]
        rfl
      rw [ep, List.map_map, ← h2]
      refine List.map_congr_left fun kv _ => ?_
      show (if kv.1 = SDT.ik p then (kv.1, v) else kv).1 = kv.1
      by_cases e : kv.1 = SDT.ik p
      · rw [if_pos e]
      · rw [if_neg e]
    · rw [List.mem_append, h4]
      constructor
      · exact .inl
      · rintro (z | z)
        · exact z
        · rw [List.mem_singleton.mp z]; exact (h4 p).mp hin
theorem takeFM {α β : Type} {l : List α} {f : α → List β} {i : Nat} {x : α} (h : l[i]? = some x) : (l.take (i + 1)).flatMap f = (l.take i).flatMap f ++ f x := by
  rw [List.take_add_one, h, List.flatMap_append]
  show _ ++ ([x] : List α).flatMap f = _
  simp
theorem fm_len {α β : Type} {f : α → List β} {b : Nat} : ∀ {l : List α}, (∀ x ∈ l, (f x).length ≤ b) → (l.flatMap f).length ≤ l.length * b
  | [], _ => by simp
  | x :: l, h => by
    have h1 := h x List.mem_cons_self
    have h2 := fm_len (f := f) (b := b) (l := l) fun y hy => h y (List.mem_cons_of_mem _ hy)
    rw [List.flatMap_cons, List.length_append, List.length_cons, Nat.succ_mul]
    omega
theorem PD.of {H H' : Hp} {dp : Addr} {L : List (Int × Int)} (h : PD H dp L) (e : ∀ x, H dp = some x → H' dp = some x) : PD H' dp L := by
  obtain ⟨kvs, ks, h1, h2⟩ := h
  exact ⟨kvs, ks, e _ h1, h2⟩
end L

namespace L
open PySem PySem.Spec PyProof.Rows L2 Z M
open _root_.SX (S S_len S_inj)
def inn (gs : List GRow) (s : List Int) (k : Nat) : List (Int × Int) := (s.drop (k + 1)).flatMap fun v => pocL gs (s.getD k 0) v
def grp (gs : List GRow) (s : List Int) : List (Int × Int) := (List.range s.length).flatMap (inn gs s)
def allP (gs : List GRow) (sn : List Int) (es : List Ent) : List (Int × Int) := es.flatMap fun e => grp gs (sn.filter (isC gs e.1))
theorem mem_grp {gs : List GRow} {s : List Int} (h : s.Pairwise (· < ·)) {p : Int × Int} : p ∈ grp gs s ↔ ∃ u v : Int, u ∈ s ∧ v ∈ s ∧ u < v ∧ p ∈ pocL gs u v := by
  unfold grp inn
  rw [List.mem_flatMap]
  constructor
  · rintro ⟨k, hk, h2⟩
    rw [List.mem_range] at hk
    obtain ⟨v, hv, h3⟩ := List.mem_flatMap.mp h2
    obtain ⟨j, hj⟩ := List.mem_iff_getElem?.mp hv
    rw [List.getElem?_drop] at hj
    obtain ⟨j1, j2⟩ := List.getElem?_eq_some_iff.mp hj
    have e : s.getD k 0 = s[k] := by rw [List.getD_eq_getElem?_getD, List.getElem?_eq_getElem hk]; rfl
    rw [e] at h3
    refine ⟨s[k], v, List.getElem_mem hk, by rw [← j2]; exact List.getElem_mem j1, ?_, h3⟩
    rw [← j2]
    exact List.pairwise_iff_getElem.mp h k (k + 1 + j) hk j1 (by omega)
  · rintro ⟨u, v, hu, hv, huv, hp⟩
    obtain ⟨k, hk⟩ := List.mem_iff_getElem?.mp hu
    obtain ⟨j, hj⟩ := List.mem_iff_getElem?.mp hv
    obtain ⟨k1, k2⟩ := List.getElem?_eq_some_iff.mp hk
    obtain ⟨j1, j2⟩ := List.getElem?_eq_some_iff.mp hj
    have hkj : k < j := by
      rcases Nat.lt_trichotomy k j with q | q | q
      · exact q
      · subst q
        rw [k2] at j2
        omega
      · have := List.pairwise_iff_getElem.mp h j k j1 k1 q
        rw [k2, j2] at this
        omega
    refine ⟨k, List.mem_range.mpr k1, List.mem_flatMap.mpr ⟨v, ?_, ?_⟩⟩
    · rw [List.mem_iff_getElem?]
      exact ⟨j - (k + 1), by rw [List.getElem?_drop, show k + 1 + (j - (k + 1)) = j by omega]; exact hj⟩
    · rw [show s.getD k 0 = u by rw [List.getD_eq_getElem?_getD, hk]; rfl]
      exact hp
theorem callN_text {fs : List FnRow} {gs : List GRow} (hw : Wty fs gs) {x : Int} {k : NestedKey} (h : callN gs x = some k) : ∃ f, k = .text (S f) := by
  unfold callN at h
  cases e : rowN gs x with
  | none => rw [e] at h; cases h
  | some g =>
    rw [e] at h
    have h : (if g.op = CALL then some g.kv else none) = some k := h
    by_cases hc : g.op = CALL
    · rw [if_pos hc] at h
      unfold rowN at e
      by_cases h1 : 1 ≤ x
      · rw [if_pos h1] at e
        obtain ⟨f, as, a1, _⟩ := hw _ g e hc
        exact ⟨f, by rw [← Option.some.inj h, a1]⟩
      · rw [if_neg h1] at e; cases e
    · rw [if_neg hc] at h; cases h
theorem mem_allP {fs : List FnRow} {gs : List GRow} (hw : Wty fs gs) {sn : List Int} {es : List Ent} (hs : sn.Pairwise (· < ·)) (al : ∀ x ∈ sn, ∀ f, callN gs x = some (.text (S f)) → f ∈ es.map (·.1)) {p : Int × Int} :
    p ∈ allP gs sn es ↔ ∃ u v : Int, u ∈ sn ∧ v ∈ sn ∧ u ≠ v ∧ Meets gs p.1 p.2 u v := by
  obtain ⟨a, b⟩ := p
  unfold allP
  rw [List.mem_flatMap]
  constructor
  · rintro ⟨e, he, hp⟩
    obtain ⟨u, v, hu, hv, huv, hp⟩ := (mem_grp (hs.filter _)).mp hp
    rw [List.mem_filter] at hu hv
    have cu : callN gs u = some (.text (S e.1)) := of_decide_eq_true hu.2
    have cv : callN gs v = some (.text (S e.1)) := of_decide_eq_true hv.2
    rcases (poc_meets hw cu cv).mp hp with q | q
    · exact ⟨u, v, hu.1, hv.1, by omega, q⟩
    · exact ⟨v, u, hv.1, hu.1, by omega, q⟩
  · rintro ⟨u, v, hu, hv, huv, hm⟩
    obtain ⟨k, cu, cv⟩ := hm.1
    obtain ⟨f, rfl⟩ := callN_text hw cu
    obtain ⟨e, he, rfl⟩ := List.mem_map.mp (al u hu f cu)
    refine ⟨e, he, (mem_grp (hs.filter _)).mpr ?_⟩
    have mu : u ∈ sn.filter (isC gs e.1) := List.mem_filter.mpr ⟨hu, decide_eq_true cu⟩
    have mv : v ∈ sn.filter (isC gs e.1) := List.mem_filter.mpr ⟨hv, decide_eq_true cv⟩
    by_cases q : u < v
    · exact ⟨u, v, mu, mv, q, (poc_meets hw cu cv).mpr (.inl hm)⟩
    · exact ⟨v, u, mv, mu, by omega, (poc_meets hw cv cu).mpr (.inr hm)⟩
section
variable {P : Program} {w : World} {K : PySem.W.Frag} {mg : Str → Option Value} {base : Heap}
theorem w_dnewT {σ : L2.St} {H : Hp} {Q : VK} (h : ∀ p, H p = none → Q (.ref p) (upd H p (.dT []))) : tDNewT σ H Q := h
theorem w_vals {td : TE} {σ : L2.St} {H : Hp} {R : It → Hp → Prop} (h : td σ H fun x H1 => ∃ d o kvs, x = .ref d ∧ H1 d = some (.frz o (.dK kvs)) ∧ R (Itd d o kvs) H1) : iVals td σ H R := h
theorem w_lock {t : TS} {D : Ends} {σ : L2.St} {H : Hp} {d : Addr} {u : HO} (h : H d = some u) (m : Mut (some u)) (q : ∀ od, t ⟨fun σ' H' => H' d = some (.frz od u) ∧ D.nx σ' (upd H' d u), fun v H' => H' d = some (.frz od u) ∧ D.rt v (upd H' d u), fun σ' H' => H' d = some (.frz od u) ∧ D.bk σ' (upd H' d u), fun σ' H' => H' d = some (.frz od u) ∧ D.ct σ' (upd H' d u)⟩ σ (upd H d (.frz od u))) : tLock t D σ H := ⟨d, u, h, m, q⟩
theorem w_for' {wi : TI} {g : TG} {tb' : TS} {D : Ends} {σ : L2.St} {H : Hp} (h : wi σ H fun J H1 => ∃ W : Nat → Nat → L2.St → Hp → Prop, (∃ m, W 0 m σ H1) ∧ ∀ i m σ H, W i m σ H →
  (J.stop i H ∧ D.nx σ H) ∨ (J.go i H ∧ ∃ N : L2.St → Hp → Prop, (∀ σ' H', N σ' H' → ∃ m', m' < m ∧ W (i + 1) m' σ' H') ∧ ∀ x H', J.yld i H x H' → g x σ H' fun σ2 H2 => tb' { D with nx := N, ct := N, bk := D.nx } σ2 H2)) : tFor wi g tb' D σ H := h
theorem w_enum {ta : TA} {σ : L2.St} {H : Hp} {R : It → Hp → Prop} (h : ta σ H fun vs H1 => ∃ a xs, vs = [.ref a] ∧ SqL K H1 a xs ∧ R (Ite K a) H1) : iEnum K ta σ H R := h
theorem poc_len {gs : List GRow} (hns : ∀ g ∈ gs, g.ns.length ≤ 50) (u v : Int) : (pocL gs u v).length ≤ 51 := by
  unfold pocL
  rw [List.length_map]
  refine Nat.le_trans (List.length_filter_le _ _) ?_
  rw [List.length_cons, List.length_zip]
  have : (argsN gs u).length ≤ 50 := by
    unfold argsN
    cases e : rowN gs u with
    | none => exact Nat.zero_le _
    | some g =>
      refine hns g ?_
      unfold rowN at e
      by_cases h1 : 1 ≤ u
      · rw [if_pos h1] at e
        exact List.mem_of_getElem? e
      · rw [if_neg h1] at e; cases e
  omega
theorem inn_len {gs : List GRow} (hns : ∀ g ∈ gs, g.ns.length ≤ 50) {s : List Int} (hs : s.length ≤ 60) (k : Nat) : (inn gs s k).length ≤ 3060 := by
  unfold inn
  refine Nat.le_trans (fm_len (b := 51) fun v _ => poc_len hns _ v) ?_
  rw [List.length_drop]
  omega
theorem grp_len {gs : List GRow} (hns : ∀ g ∈ gs, g.ns.length ≤ 50) {s : List Int} (hs : s.length ≤ 60) : (grp gs s).length ≤ 183600 := by
  unfold grp
  refine Nat.le_trans (fm_len (b := 3060) fun k _ => inn_len hns hs k) ?_
  rw [List.length_range]
  omega
/-- the numbers that are brought together -/
def spMeet (P : Program) (w : World) (K : PySem.W.Frag) (CB : Addr) : Sp := fun vs H Q _ => ∃ (o : Addr) (t : BkO) (us : List Addr) (gs : List GRow) (fs : List FnRow) (na : Addr) (given : List Int), vs = [.ref o, .ref na] ∧ BkAt P w CB H o t us (gs.map GRow.b) ∧ Wty fs gs ∧ SqL K H na (given.map V.int) ∧ given.length ≤ 60 ∧
  (∀ x ∈ given, ∃ (i : Nat) (g : GRow), x = (i : Int) + 1 ∧ gs[i]? = some g) ∧ (∀ g ∈ gs, g.ns.length ≤ 50) ∧
  ∀ p ys zs H', Same H H' → H' p = some (.lst ys) → H p = none → PairsV H' ys zs → zs.Nodup → zs.Pairwise SDT.lexI → (∀ q : Int × Int, q ∈ zs ↔ ∃ u v : Int, u ∈ given ∧ v ∈ given ∧ u ≠ v ∧ Meets gs q.1 q.2 u v) → Q (.ref p) H'
theorem ok_meet (T : Txt K mg) : FnOk P w K mg base CX0 4 T.f_meeting_pairs T.fd_meeting_pairs ["bank", "nodes"] (spMeet P w K T.C_Bank) := by
  have G_Bank_node := ok_node (P := P) (w := w) (base := base) T
  have G_pairs_of_calls := ok_poc (P := P) (w := w) (base := base) T
  refine T.F_meeting_pairs.ok sc_meeting_pairs (fun vs H Q E h => ?_) (fun cdv A outer s H vs Q E hr h => ?_)
  · obtain ⟨o, t, us, gs, fs, na, given, rfl, _⟩ := h
    rfl
  · obtain ⟨o, t, us, gs, fs, na, given, rfl, bk, hw, hna, hg60, hgv, hns, h⟩ := h
    refine ⟨_, (pss_cons (ps_set (i := 2) sc_meeting_pairs.nd rfl (.inl rfl) pe_dnewK)
 (pss_cons (ps_for PassesOwn.never rfl (pi_list (pe_callB (cr_sortedSet rfl) (by rfl) T.m_sorted (by decide +kernel) (pa_cons (pe_callTy (SLT.cr_setLT rfl) (by rfl) T.m_set (by decide +kernel) (pa_cons (pv 1) pa_nil)) pa_nil))) (pg_name (i := 3) sc_meeting_pairs.nd rfl (.inl rfl)) (pss_cons (ps_asg (pe_meth (pv 0) T.cl_Bank T.M_Bank_node G_Bank_node (hr.mono (by first | decide | omega)) T.b_Bank_node .nil pass0 (pa_cons (pv 3) pa_nil)) (pg_tup (by rfl) (pgs_cons (pg_name (i := 4) sc_meeting_pairs.nd rfl (.inl rfl)) (pgs_cons (pg_name (i := 5) sc_meeting_pairs.nd rfl (.inl rfl)) (pgs_cons (pg_name (i := 6) sc_meeting_pairs.nd rfl (.inl rfl)) pgs_nil)))))
 (pss_one (ps_if (pt_cmpR op_eq (pv 4) (MT.pe_strS (l := [99, 97, 108, 108]) (by decide +kernel)) (nomark _)) (pss_one (ps_expr (pe_bm PySem.F.plainAttrs_list PySem.F.slot_list_append PySem.F.type_list_append mt_append (pe_dsetd (pv 2) (pv 5) (pe_lst pa_nil) ⟨rfl, rfl, rfl, rfl⟩) (pa_cons (pv 3) pa_nil)))) pss_nil))))
 (pss_cons (ps_set (i := 7) sc_meeting_pairs.nd rfl (.inl rfl) pe_dnewT)
 (pss_cons (ps_lock (ps_for PassesOwn.never rfl (pi_values (pv 2)) (pg_name (i := 8) sc_meeting_pairs.nd rfl (.inl rfl)) (pss_one (ps_for PassesOwn.never rfl (pi_enum (by rfl) T.m_enumerate (pa_cons (pv 8) pa_nil)) (pg_tup (by rfl) (pgs_cons (pg_name (i := 9) sc_meeting_pairs.nd rfl (.inl rfl)) (pgs_cons (pg_name (i := 10) sc_meeting_pairs.nd rfl (.inl rfl)) pgs_nil))) (pss_one (ps_for PassesOwn.never rfl (pi_list (pe_slice sl_list (pv 8) (po_some (pe_op op_add (pv 9) pe_int)) po_none)) (pg_name (i := 11) sc_meeting_pairs.nd rfl (.inl rfl)) (pss_one (ps_for PassesOwn.never rfl (pi_list (pe_call G_pairs_of_calls (hr.mono (by first | decide | omega)) (by rfl) T.g_pairs_of_calls T.F_pairs_of_calls.kp T.b_pairs_of_calls .nil pass0 (pa_cons (pv 0) (pa_cons (pv 10) (pa_cons (pv 11) pa_nil))))) (pg_name (i := 12) sc_meeting_pairs.nd rfl (.inl rfl)) (pss_one (ps_dput (hu_of hr) (pv 7) (pv 12) pe_bl rfl))))))))))
 (pss_one (ps_ret (pe_callB (SDT.cr_sortedDT rfl) (by rfl) T.m_sorted (by decide +kernel) (pa_cons (pv 7) pa_nil)))))))), ?_⟩
    refine Z.w_start (σ' := [some (.ref o), some (.ref na), none, none, none, none, none, none, none, none, none, none, none]) rfl ?_
    walk_at "w"
    rename_i dc hdc
    have hna1 : SqL K (upd H dc (.dK [])) na (given.map V.int) := Same.seq (same_of (Same.refl _) hdc) hna
    refine ⟨na, given, rfl, .inl hna1, by omega, fun q n fq hn => ?_⟩
    generalize hso : SetO _ q (fun j => decide (j ∈ given)) n = so
    walk_at "w"
    refine ⟨q, fun j => decide (j ∈ given), n, rfl, by rw [upd_same, ← hso], by omega, fun sn ps hps hms hls fps => ?_⟩
    have s1 : Same H (upd (upd (upd H dc (.dK [])) q so) ps (.lst (sn.map V.int))) := same_of (same_of (same_of (Same.refl _) hdc) fq) fps
    have d1 : upd (upd (upd H dc (.dK [])) q so) ps (.lst (sn.map V.int)) dc = some (.dK []) := upd_of fps (upd_of fq upd_same)
    have e1 : upd (upd (upd H dc (.dK [])) q so) ps (.lst (sn.map V.int)) ps = some (.lst (sn.map V.int)) := upd_same
    generalize upd (upd (upd H dc (.dK [])) q so) ps (.lst (sn.map V.int)) = H1 at s1 d1 e1 ⊢
    have hps0 : H ps = none := by
      have z1 := fresh_of fps
      exact (fresh_of z1.2).2
    have hsn : ∀ k : Int, k ∈ sn ↔ k ∈ given := fun k => (hms k).trans (by rw [decide_eq_true_eq])
    have hsl : sn.length ≤ 60 := by rw [hls]; omega
    walk_at "w"
    refine for_list (xs := sn.map V.int) (fun i σ' H' => ∃ v3 v4 v5 v6 es, σ' = [some (.ref o), some (.ref na), some (.ref dc), v3, v4, v5, v6, none, none, none, none, none, none] ∧ Same H H' ∧ H' ps = some (.lst (sn.map V.int)) ∧ es.length ≤ i ∧ (∀ e ∈ es, e.2 ≠ ps) ∧ CallsI gs H H' dc (sn.take i) es)
      ⟨none, none, none, none, [], rfl, s1, e1, Nat.le_refl _, (fun e he => by cases he), d1, by simp, by simp, (fun e he => by cases he), (fun x hx => by simp at hx)⟩ (fun i σ' H' _ ⟨_, _, _, _, _, _, _, e, _⟩ => .inl (.inl e)) ?_ ?_
    · rintro i x σ' H' hx ⟨v3, v4, v5, v6, es, rfl, sm, eps, hel, hnp, ci⟩
      rw [List.getElem?_map] at hx
      obtain ⟨m, hm, rfl⟩ := Option.map_eq_some_iff.mp hx
      obtain ⟨n0, g, rfl, eg⟩ := hgv m ((hsn m).mp (List.mem_of_getElem? hm))
      obtain ⟨au, val, pa, u1, u2, u3, u4⟩ := (bk.same sm).row eg
      have bk' := bk.same sm
      have etake : sn.take (i + 1) = sn.take i ++ [(n0 : Int) + 1] := by rw [List.take_add_one, hm]; rfl
      walk_at "w"
      refine w_meth0 bk'.obj rfl (by rfl) ?_
      walk_at "w"
      refine ⟨o, t, us, _, n0, au, rfl, bk', u1, ?_⟩
      walk_at "w"
      by_cases hop : g.op = CALL
      · have hop' : decide (g.op = [99, 97, 108, 108]) = true := decide_eq_true hop
        obtain ⟨f, as, a1, _⟩ := hw n0 g eg hop
        have hc : callN gs ((n0 : Int) + 1) = some (.text (S f)) := by
          unfold callN
          rw [rowN_nat, eg]
          show (if g.op = CALL then some g.kv else none) = _
          rw [if_pos hop, a1]
        have hval : val = .str (S f) := by
          rw [a1] at u3
          unfold ND.nk at u3
          exact u3
        subst hval
        rw [if_pos hop']
        walk_at "w"
        refine Z.w_bm ?_
        refine w_dsetd ?_
        walk_at "w"
        refine ⟨.inl ⟨_, .inl ci.d⟩, ?_⟩
        walk_at "w"
        rename_i l0 hl0
        have n0l : H l0 = none := fresh_of1 sm hl0
        have hi60 : i < 60 := by have := (List.getElem?_eq_some_iff.mp hm).1; omega
        refine ⟨entK es, Sum.inr (S f), upd_of hl0 ci.d, rfl, ?_, fun v hv => ?_, fun hnv => ?_⟩
        · unfold entK
          rw [List.length_map]
          exact Nat.lt_of_le_of_lt (Nat.le_trans hel (Nat.le_of_lt hi60)) (by decide)
        · rw [entK_val] at hv
          obtain ⟨a, ha, rfl⟩ := Option.map_eq_some_iff.mp hv
          have hmem := lookup_mem ha
          have c2 := ci.same (same_of (Same.refl _) hl0 : Same H' (upd H' l0 (.lst [])))
          obtain ⟨h1, h2⟩ := c2.ls _ hmem
          refine Z.w_tyL h1 ?_
          walk_at "w"
          have hfl : ((sn.take i).filter (isC gs f)).length ≤ 60 := Nat.le_trans (List.length_filter_le _ _) (by rw [List.length_take]; omega)
          refine Z.w_app h1 (by rw [List.length_map]; show ((sn.take i).filter (isC gs f)).length < 100000; omega) ?_
          walk_at "w"
          refine ⟨_, _, _, _, es, rfl, same_mut (same_of sm hl0) h2, ?_, by omega, hnp, by rw [etake]; exact c2.add hc hmem⟩
          rw [upd_ne (hnp _ hmem).symm]
          exact upd_of hl0 eps
        · rw [entK_val] at hnv
          have hno := lookup_none (Option.map_eq_none_iff.mp hnv)
          have ek : putK (entK es) (Sum.inr (S f)) (.ref l0) = entK (es ++ [(f, l0)]) := by
            rw [putK_new _ (by rw [entK_val, Option.map_eq_none_iff.mp hnv]; rfl)]
            unfold entK
            rw [List.map_append]
            rfl
          rw [ek]
          have c3 := ci.fresh hno hl0 n0l
          obtain ⟨h1, h2⟩ := c3.ls (f, l0) (List.mem_append.mpr (.inr (List.mem_singleton.mpr rfl)))
          have c4 := c3.add hc (List.mem_append.mpr (.inr (List.mem_singleton.mpr rfl)))
          have s3 : Same H (upd (upd H' l0 (.lst [])) dc (.dK (entK (es ++ [(f, l0)])))) := same_mut (same_of sm hl0) hdc
          have eps3 : upd (upd H' l0 (.lst [])) dc (.dK (entK (es ++ [(f, l0)]))) ps = some (.lst (sn.map V.int)) := by
            rw [upd_ne (ne_ld eps ci.d), upd_of hl0 eps]
          generalize upd (upd H' l0 (.lst [])) dc (.dK (entK (es ++ [(f, l0)]))) = H3 at h1 c4 s3 eps3 ⊢
          refine Z.w_tyL h1 ?_
          walk_at "w"
          have hfl : ((sn.take i).filter (isC gs f)).length ≤ 60 := Nat.le_trans (List.length_filter_le _ _) (by rw [List.length_take]; omega)
          refine Z.w_app h1 (by rw [List.length_map]; show ((sn.take i).filter (isC gs f)).length < 100000; omega) ?_
          walk_at "w"
          have nlp : l0 ≠ ps := fun z => by rw [z, eps] at hl0; cases hl0
          refine ⟨_, _, _, _, es ++ [(f, l0)], rfl, same_mut s3 h2, ?_, ?_, fun e he => ?_, by rw [etake]; exact c4⟩
          · rw [upd_ne nlp.symm]
            exact eps3
          · rw [List.length_append]
            exact Nat.succ_le_succ hel
          · rcases List.mem_append.mp he with he | he
            · exact hnp e he
            · rw [List.mem_singleton.mp he]
              exact nlp
      · have hop' : ¬ decide (g.op = [99, 97, 108, 108]) = true := fun z => hop (of_decide_eq_true z)
        rw [if_neg hop']
        walk_at "w"
        refine ⟨_, _, _, _, es, rfl, sm, eps, by omega, hnp, ?_⟩
        rw [etake]
        refine ci.skip fun f hf => ?_
        unfold callN at hf
        rw [rowN_nat, eg] at hf
        have hf' : (if g.op = CALL then some g.kv else none) = some (.text (S f)) := hf
        rw [if_neg hop] at hf'
        cases hf'
    · rintro σ' H' ⟨v3, v4, v5, v6, es, rfl, sm, eps, hel, hnp, ci⟩
      rw [List.length_map] at hel ci
      rw [List.take_length] at ci
      walk_at "w"
      refine w_dnewT fun dp hdp => ?_
      have hdp0 : H dp = none := fresh_of1 sm hdp
      have c1 := ci.same (same_of (Same.refl _) hdp : Same H' (upd H' dp (.dT [])))
      have s1' : Same H (upd H' dp (.dT [])) := same_of sm hdp
      have pd1 : PD (upd H' dp (.dT [])) dp [] := ⟨[], [], upd_same, rfl, .nil, fun p => by simp, Nat.le_refl _⟩
      generalize upd H' dp (.dT []) = H2 at c1 s1' pd1 ⊢
      walk_at "w"
      refine w_lock c1.d trivial fun od => ?_
      have ndd : dp ≠ dc := fun z => by
        obtain ⟨kvs, ks, e, _⟩ := pd1
        rw [z, c1.d] at e
        cases e
      have s3 : Same H (upd H2 dc (.frz od (.dK (entK es)))) := same_mut s1' hdc
      have e3 : upd H2 dc (.frz od (.dK (entK es))) dc = some (.frz od (.dK (entK es))) := upd_same
      have pd3 : PD (upd H2 dc (.frz od (.dK (entK es)))) dp [] := pd1.of fun x e => by rw [upd_ne ndd]; exact e
      have ls3 : ∀ e ∈ es, upd H2 dc (.frz od (.dK (entK es))) e.2 = some (.lst ((sn.filter (isC gs e.1)).map V.int)) := fun e he => by
        obtain ⟨h1, _⟩ := c1.ls e he
        rw [upd_ne (ne_ld h1 c1.d)]
        exact h1
      have back : ∀ Hx : Hp, Ch [dp] (upd H2 dc (.frz od (.dK (entK es)))) Hx → Hx dc = some (.frz od (.dK (entK es))) := fun Hx c => c _ _ (by rw [List.mem_singleton]; exact ndd.symm) e3
      have h0dp := hdp0
      generalize upd H2 dc (.frz od (.dK (entK es))) = H3 at s3 e3 pd3 ls3 back ⊢
      refine w_for' (w_vals (Z.w_var (v := .ref dc) rfl ⟨dc, od, _, rfl, e3, ?_⟩))
      have nls : ∀ e ∈ es, e.2 ≠ dp := fun e he z => by
        obtain ⟨kvs, ks, q, _⟩ := pd3
        rw [← z, ls3 e he] at q
        cases q
      have ent_at : ∀ (i : Nat) (k : Key) (x : V), (entK es)[i]? = some (k, x) → ∃ e, es[i]? = some e ∧ x = .ref e.2 := fun i k x hk => by
        unfold entK at hk
        rw [List.getElem?_map] at hk
        obtain ⟨e, he, hx⟩ := Option.map_eq_some_iff.mp hk
        injection hx with _ hx
        exact ⟨e, he, hx.symm⟩
      refine for_it (walk_values (d := dc) (o := od) (kvs := entK es)) (fun i σ' Hx => ∃ v3 v4 v5 v6 v8 v9 v10 v11 v12, σ' = [some (.ref o), some (.ref na), some (.ref dc), v3, v4, v5, v6, some (.ref dp), v8, v9, v10, v11, v12] ∧ Ch [dp] H3 Hx ∧ PD Hx dp ((es.take i).flatMap fun e => grp gs (sn.filter (isC gs e.1)))) ⟨v3, v4, v5, v6, none, none, none, none, none, rfl, Ch.refl _ _, pd3⟩ ?_ ?_ ?_
      · rintro i σ' Hx _ ⟨_, _, _, _, _, _, _, _, _, _, c, _⟩
        exact back Hx c
      · rintro i x σ' Hx _ hi ⟨v3, v4, v5, v6, v8, v9, v10, v11, v12, rfl, c, pd⟩ ⟨rfl, k0, hk0⟩
        obtain ⟨e, he, rfl⟩ := ent_at i k0 x hk0
        have hem := List.mem_of_getElem? he
        have hi60 : i < 60 := by have := (List.getElem?_eq_some_iff.mp he).1; omega
        have hA : ((es.take i).flatMap fun e => grp gs (sn.filter (isC gs e.1))).length ≤ i * 183600 := Nat.le_trans (fm_len (b := 183600) fun e _ => grp_len hns (Nat.le_trans (List.length_filter_le _ _) hsl)) (Nat.mul_le_mul_right _ (by rw [List.length_take]; omega))
        rw [takeFM (f := fun e : Ent => grp gs (sn.filter (isC gs e.1))) he]
        generalize ((es.take i).flatMap fun e => grp gs (sn.filter (isC gs e.1))) = LA at pd hA
        have hs60 : (sn.filter (isC gs e.1)).length ≤ 60 := Nat.le_trans (List.length_filter_le _ _) hsl
        have hsm : ∀ x ∈ sn.filter (isC gs e.1), (∃ (m : Nat), x = (m : Int) + 1) ∧ callN gs x = some (.text (S e.1)) := fun x hx => by
          rw [List.mem_filter] at hx
          obtain ⟨m, g, em, _⟩ := hgv x ((hsn x).mp hx.1)
          exact ⟨⟨m, em⟩, of_decide_eq_true hx.2⟩
        have els := ls3 e hem
        have nle := nls e hem
        have hsub : ∀ x ∈ sn.filter (isC gs e.1), x ∈ sn := fun x hx => (List.mem_filter.mp hx).1
        generalize sn.filter (isC gs e.1) = s at els hs60 hsm hsub ⊢
        refine Z.w_gname (σ' := [some (.ref o), some (.ref na), some (.ref dc), v3, v4, v5, v6, some (.ref dp), some (.ref e.2), v9, v10, v11, v12]) rfl ?_
        have elx : ∀ Hy : Hp, Ch [dp] H3 Hy → Hy e.2 = some (.lst (s.map V.int)) := fun Hy cy => cy _ _ (by rw [List.mem_singleton]; exact nle) els
        refine w_for' (w_enum (Z.w_cons (Z.w_var (v := .ref e.2) rfl (Z.w_nil ⟨e.2, s.map V.int, rfl, .inl (.inl (elx _ c)), ?_⟩))))
        refine for_it (walk_enum (xs := s.map V.int)) (fun k σ' Hy => ∃ v3 v4 v5 v6 v9 v10 v11 v12, σ' = [some (.ref o), some (.ref na), some (.ref dc), v3, v4, v5, v6, some (.ref dp), some (.ref e.2), v9, v10, v11, v12] ∧ Ch [dp] H3 Hy ∧ PD Hy dp (LA ++ (List.range k).flatMap (inn gs s))) ⟨_, _, _, _, _, _, _, _, rfl, c, by rw [List.range_zero, List.flatMap_nil, List.append_nil]; exact pd⟩ ?_ ?_ ?_
        · rintro k σ' Hy _ ⟨_, _, _, _, _, _, _, _, _, cy, _⟩
          exact .inl (.inl (elx _ cy))
        · rintro k x σ' Hy _ hk ⟨v3, v4, v5, v6, v9, v10, v11, v12, rfl, cy, pdy⟩ ⟨TT, a, b, rfl, fT, rfl, ea, eb⟩
          obtain rfl := Option.some.inj ea
          have eb : (s.map V.int)[k]? = some b := eb
          rw [List.getElem?_map] at eb
          obtain ⟨u, hu, rfl⟩ := Option.map_eq_some_iff.mp eb
          rw [List.length_map] at hk
          have cz : Ch [dp] H3 (upd Hy TT (.tup [.int (k : Int), .int u])) := cy.new fT
          have pdz : PD (upd Hy TT (.tup [.int (k : Int), .int u])) dp (LA ++ (List.range k).flatMap (inn gs s)) := pdy.of fun x e => upd_of fT e
          have eT : upd Hy TT (.tup [.int (k : Int), .int u]) TT = some (.tup [.int (k : Int), .int u]) := upd_same
          generalize upd Hy TT (.tup [.int (k : Int), .int u]) = Hz at cz pdz eT ⊢
          have hk60 : k < 60 := by omega
          have hum := List.mem_of_getElem? hu
          obtain ⟨⟨mu, rfl⟩, cu⟩ := hsm u hum
          refine Z.w_gtupH eT rfl ?_
          refine Z.w_gcons ?_
          refine Z.w_gname (σ' := [some (.ref o), some (.ref na), some (.ref dc), v3, v4, v5, v6, some (.ref dp), some (.ref e.2), some (.int (k : Int)), v10, v11, v12]) rfl ?_
          refine Z.w_gcons ?_
          refine Z.w_gname (σ' := [some (.ref o), some (.ref na), some (.ref dc), v3, v4, v5, v6, some (.ref dp), some (.ref e.2), some (.int (k : Int)), some (.int ((mu : Int) + 1)), v11, v12]) rfl ?_
          refine Z.w_gnil ?_
          have elz := elx _ cz
          have hB : ((List.range k).flatMap (inn gs s)).length ≤ k * 3060 := Nat.le_trans (fm_len (b := 3060) fun j _ => inn_len hns hs60 j) (Nat.mul_le_mul_right _ (by rw [List.length_range]; exact Nat.le_refl _))
          have eR : (List.range (k + 1)).flatMap (inn gs s) = (List.range k).flatMap (inn gs s) ++ inn gs s k := by
            rw [List.range_succ, List.flatMap_append]
            simp
          rw [eR]
          have eI : inn gs s k = (s.drop (k + 1)).flatMap fun v => pocL gs ((mu : Int) + 1) v := by
            unfold inn
            rw [show s.getD k 0 = (mu : Int) + 1 by rw [List.getD_eq_getElem?_getD, hu]; rfl]
          rw [eI, ← List.append_assoc]
          generalize (List.range k).flatMap (inn gs s) = LB at pdz hB
          walk_at "w"
          refine w_slFrom (s := k + 1) (.inl (.inl elz)) (by rw [List.length_map]; omega) fun pl fpl => ?_
          have cw : Ch [dp] H3 (upd Hz pl (.lst ((s.map V.int).drop (k + 1)))) := cz.new fpl
          have pdw : PD (upd Hz pl (.lst ((s.map V.int).drop (k + 1)))) dp (LA ++ LB) := pdz.of fun x e => upd_of fpl e
          have epl : upd Hz pl (.lst ((s.map V.int).drop (k + 1))) pl = some (.lst ((s.map V.int).drop (k + 1))) := upd_same
          have npl : pl ≠ dp := fun z => by
            obtain ⟨kvs, ks, q, _⟩ := pdz
            rw [z, q] at fpl
            cases fpl
          generalize upd Hz pl (.lst ((s.map V.int).drop (k + 1))) = Hw at cw pdw epl ⊢
          rw [← List.map_drop] at epl
          walk_at "w"
          have sH : ∀ Ha : Hp, Ch [dp] H3 Ha → Same H Ha := fun Ha ca b x eb => ca b x (fun z => by rw [List.mem_singleton.mp z, h0dp] at eb; cases eb) (s3 b x eb)
          have hargs : (argsN gs ((mu : Int) + 1)).length ≤ 50 := by
            obtain ⟨m2, g2, e2, g3⟩ := hgv _ ((hsn _).mp (hsub _ hum))
            obtain rfl : mu = m2 := by omega
            unfold argsN
            rw [rowN_nat, g3]
            exact hns g2 (List.mem_of_getElem? g3)
          refine for_list (xs := (s.drop (k + 1)).map V.int) (fun m σ' Ha => ∃ v3 v4 v5 v6 v11 v12, σ' = [some (.ref o), some (.ref na), some (.ref dc), v3, v4, v5, v6, some (.ref dp), some (.ref e.2), some (.int (k : Int)), some (.int ((mu : Int) + 1)), v11, v12] ∧ Ch [dp] H3 Ha ∧ Ha pl = some (.lst ((s.drop (k + 1)).map V.int)) ∧ PD Ha dp (LA ++ LB ++ ((s.drop (k + 1)).take m).flatMap fun v => pocL gs ((mu : Int) + 1) v))
            ⟨_, _, _, _, _, _, rfl, cw, epl, by rw [List.take_zero, List.flatMap_nil, List.append_nil]; exact pdw⟩ (fun m σ' Ha _ ⟨_, _, _, _, _, _, _, _, q, _⟩ => .inl (.inl q)) ?_ ?_
          · rintro m x σ' Ha hx ⟨v3, v4, v5, v6, v11, v12, rfl, ca, epa, pda⟩
            rw [List.getElem?_map] at hx
            obtain ⟨v, hv, rfl⟩ := Option.map_eq_some_iff.mp hx
            have hm60 : m < 60 := by
              have := (List.getElem?_eq_some_iff.mp hv).1
              rw [List.length_drop] at this
              omega
            have hvm : v ∈ s := List.mem_of_mem_drop (List.mem_of_getElem? hv)
            obtain ⟨⟨mv, rfl⟩, cv⟩ := hsm v hvm
            have hC : (((s.drop (k + 1)).take m).flatMap fun v => pocL gs ((mu : Int) + 1) v).length ≤ m * 51 := Nat.le_trans (fm_len (b := 51) fun v _ => poc_len hns _ v) (Nat.mul_le_mul_right _ (by rw [List.length_take]; omega))
            rw [takeFM (f := fun v => pocL gs ((mu : Int) + 1) v) hv, ← List.append_assoc]
            generalize (((s.drop (k + 1)).take m).flatMap fun v => pocL gs ((mu : Int) + 1) v) = LC at pda hC
            refine Z.w_gname (σ' := [some (.ref o), some (.ref na), some (.ref dc), v3, v4, v5, v6, some (.ref dp), some (.ref e.2), some (.int (k : Int)), some (.int ((mu : Int) + 1)), some (.int ((mv : Int) + 1)), v12]) rfl ?_
            walk_at "w"
            refine ⟨o, t, us, gs, fs, mu, mv, .text (S e.1), rfl, bk.same (sH Ha ca), hw, cu, cv, hargs, fun pq ys Hb sb epq pvb => ?_⟩
            have hD := poc_len hns ((mu : Int) + 1) ((mv : Int) + 1)
            generalize pocL gs ((mu : Int) + 1) ((mv : Int) + 1) = zs at pvb hD ⊢
            have cb : Ch [dp] H3 Hb := ca.trans (Ch.of sb)
            have epb := sb _ _ epa
            have pdb : PD Hb dp (LA ++ LB ++ LC) := pda.of (sb dp)
            walk_at "w"
            refine for_list (xs := ys) (fun j σ' Hc => ∃ v3 v4 v5 v6 v12, σ' = [some (.ref o), some (.ref na), some (.ref dc), v3, v4, v5, v6, some (.ref dp), some (.ref e.2), some (.int (k : Int)), some (.int ((mu : Int) + 1)), some (.int ((mv : Int) + 1)), v12] ∧ Ch [dp] H3 Hc ∧ Hc pl = some (.lst ((s.drop (k + 1)).map V.int)) ∧ Hc pq = some (.lst ys) ∧ PairsV Hc ys zs ∧ PD Hc dp (LA ++ LB ++ LC ++ zs.take j))
              ⟨_, _, _, _, _, rfl, cb, epb, epq, pvb, by rw [List.take_zero, List.append_nil]; exact pdb⟩ (fun m σ' Ha _ ⟨_, _, _, _, _, _, _, _, q, _⟩ => .inl (.inl q)) ?_ ?_
            · rintro j x σ' Hc hx ⟨v3, v4, v5, v6, v12, rfl, cc, epc, eqc, pvc, pdc⟩
              have hj : j < zs.length := by rw [← pvc.1]; exact (List.getElem?_eq_some_iff.mp hx).1
              obtain ⟨tt, rfl, ett⟩ := pvc.2 j x zs[j] hx (List.getElem?_eq_getElem hj)
              have hlen : (LA ++ LB ++ LC ++ zs.take j).length < sizeLine := by
                rw [List.length_append, List.length_append, List.length_append, List.length_take]
                refine Nat.lt_of_le_of_lt (m := 11016000) ?_ (by decide)
                omega
              obtain ⟨kvs, q1, q2, q3⟩ := pdc.put zs[j] (.bl true) hlen
              refine Z.w_gname (σ' := [some (.ref o), some (.ref na), some (.ref dc), v3, v4, v5, v6, some (.ref dp), some (.ref e.2), some (.int (k : Int)), some (.int ((mu : Int) + 1)), some (.int ((mv : Int) + 1)), some (.ref tt)]) rfl ?_
              walk_at "w"
              refine ⟨dp, _, rfl, DPut.t (k := SDT.ik zs[j]) q1 ett q2, ?_⟩
              have cn : Ch [dp] Hc (upd Hc dp (.dT (putK kvs (SDT.ik zs[j]) (.bl true)))) := (Ch.refl _ _).put (List.mem_singleton.mpr rfl)
              have nt : NoTup [dp] Hc := fun b hb ys eb => by
                rw [List.mem_singleton.mp hb, q1] at eb
                cases eb
              refine ⟨_, _, _, _, _, rfl, cc.put (List.mem_singleton.mpr rfl), ?_, ?_, pvc.ch cn nt, ?_⟩
              · rw [upd_ne npl]; exact epc
              · rw [upd_ne (fun z => by rw [z, q1] at eqc; cases eqc)]; exact eqc
              · rw [List.take_add_one, List.getElem?_eq_getElem hj, ← List.append_assoc]
                exact q3
            · rintro σ' Hc ⟨v3, v4, v5, v6, v12, rfl, cc, epc, eqc, pvc, pdc⟩
              rw [pvc.1, List.take_length] at pdc
              exact ⟨_, _, _, _, _, _, rfl, cc, epc, pdc⟩
          · rintro σ' Ha ⟨v3, v4, v5, v6, v11, v12, rfl, ca, epa, pda⟩
            rw [List.length_map, List.take_length] at pda
            exact ⟨_, _, _, _, _, _, _, _, rfl, ca, pda⟩
        · rintro σ' Hy ⟨v3, v4, v5, v6, v9, v10, v11, v12, rfl, cy, pdy⟩
          rw [List.length_map] at pdy
          exact ⟨v3, v4, v5, v6, _, v9, v10, v11, v12, rfl, cy, pdy⟩
      · rintro σ' Hx ⟨v3, v4, v5, v6, v8, v9, v10, v11, v12, rfl, c, pd⟩
        rw [show (entK es).length = es.length from List.length_map _, List.take_length] at pd
        refine ⟨back Hx c, ?_⟩
        have sX : Same H (upd Hx dc (.dK (entK es))) := fun b x eb => by
          rw [upd_ne (fun z => by rw [z, hdc] at eb; cases eb)]
          exact c b x (fun z => by rw [List.mem_singleton.mp z, h0dp] at eb; cases eb) (s3 b x eb)
        have pdX : PD (upd Hx dc (.dK (entK es))) dp (es.flatMap fun e => grp gs (sn.filter (isC gs e.1))) := pd.of fun x e => by rw [upd_ne ndd]; exact e
        generalize upd Hx dc (.dK (entK es)) = HX at sX pdX ⊢
        obtain ⟨kvs, ks, q1, q2, q3, q4, _⟩ := pdX
        walk_at "w"
        refine ⟨dp, kvs, ks, rfl, q1, q2, fun zs ys p hperm hpw hlen hpairs hp => ?_⟩
        refine h p ys zs _ (same_of sX hp) upd_same (fresh_of1 sX hp) ⟨hlen, fun i y z e1 e2 => ?_⟩ (hperm.nodup_iff.mpr q3) hpw fun q => ?_
        · obtain ⟨tt, h1, h2⟩ := hpairs i y z e1 e2
          exact ⟨tt, h1, upd_of hp h2⟩
        · rw [hperm.mem_iff, q4]
          refine (mem_allP hw hps ci.al).trans ?_
          constructor
          · rintro ⟨u, v, hu, hv, r⟩
            exact ⟨u, v, (hsn u).mp hu, (hsn v).mp hv, r⟩
          · rintro ⟨u, v, hu, hv, r⟩
            exact ⟨u, v, (hsn u).mpr hu, (hsn v).mpr hv, r⟩
end
end L

namespace MT
open PySem PySem.Spec PyProof.Rows L2 MW
open SX (S S_len S_cat S_inj)
section
variable {H : Hp} {Q : VK}
def rMulS : R2 := fun x y H Q => ∃ (i : Str) (n : Int), x = .str i ∧ y = .int n ∧ i.length ≤ 2000 ∧ -1 ≤ n ∧ n ≤ 2000 ∧ Q (.str (Txt.mul i n)) H
theorem op_mulS {X : Cx} : OpR X (binaryOp .Mult) rMulS := by
  intro pins s σ H x y v u Q I rx ry h
  obtain ⟨i, n, rfl, rfl, h1, h2, h3, q⟩ := h
  obtain ⟨t, rfl⟩ := rx
  obtain ⟨t', rfl⟩ := ry
  exact SB.mul (mulOk_of 2000 2000 h1 h3 (by omega) (by decide) (by decide)) fun t' k => ⟨.str (Txt.mul i n), H, I.tok _, ⟨_, rfl⟩, q⟩
theorem fold_app : ∀ (xs : List (Array Nat)) (a : Array Nat), (xs.foldl (· ++ ·) a).toList = a.toList ++ (xs.map Array.toList).flatten
  | [], a => by simp
  | x :: xs, a => by
    rw [List.foldl_cons, fold_app xs, Array.toList_append, List.map_cons, List.flatten_cons, List.append_assoc]
theorem mul1 {n : Int} {c : Nat} (h : 0 ≤ n) : Txt.mul (S [c]) n = S (List.replicate n.toNat c) := by
  unfold Txt.mul
  by_cases h0 : n ≤ 0
  · obtain rfl : n = 0 := by omega
    rfl
  · rw [if_neg (by omega)]
    split
    · rename_i h2
      rcases Bool.or_eq_true_iff.mp h2 with e | e
      · obtain rfl : n = 1 := eq_of_beq e
        rfl
      · have e : (S [c]).length = 0 := eq_of_beq e
        rw [S_len] at e
        cases e
    · refine congrArg Str.mk ?_
      apply Array.ext'
      rw [fold_app]
      simp [S]
theorem w_mul1 {n : Int} {c : Nat} (h : 0 ≤ n) (hn : n ≤ 2000) (q : Q (.str (S (List.replicate n.toNat c))) H) : rMulS (.str (S [c])) (.int n) H Q := ⟨_, _, rfl, rfl, by rw [S_len]; exact (by decide : 1 ≤ 2000), by omega, hn, by rw [mul1 h]; exact q⟩
end
end MT

namespace L
open PySem PySem.Spec PyProof.Rows L2 Z M
open _root_.SX (S S_len S_inj)
/-! drawn words -/
def Wd0 (p : Nat) (l : List Nat) : Prop := ∃ c n m, 97 ≤ c ∧ c ≤ 122 ∧ n + m ≤ 4 ∧ l = List.replicate n c ++ [65 + p] ++ List.replicate m c
theorem Wd0.mem {p : Nat} {l : List Nat} (h : Wd0 p l) {d : Nat} (hd : d ∈ l) : d = 65 + p ∨ (97 ≤ d ∧ d ≤ 122) := by
  obtain ⟨c, n, m, h1, h2, h3, rfl⟩ := h
  rcases List.mem_append.mp hd with hd | hd
  · rcases List.mem_append.mp hd with hd | hd
    · rw [(List.mem_replicate.mp hd).2]; exact .inr ⟨h1, h2⟩
    · exact .inl (List.mem_singleton.mp hd)
  · rw [(List.mem_replicate.mp hd).2]; exact .inr ⟨h1, h2⟩
theorem Wd0.up {p : Nat} {l : List Nat} (h : Wd0 p l) : 65 + p ∈ l := by
  obtain ⟨c, n, m, h1, h2, h3, rfl⟩ := h
  simp
theorem Wd0.len {p : Nat} {l : List Nat} (h : Wd0 p l) : l.length ≤ 5 := by
  obtain ⟨c, n, m, h1, h2, h3, rfl⟩ := h
  simp
  omega
theorem Wd0.inj {p q : Nat} {l : List Nat} (hp : p < 26) (hq : q < 26) (h : Wd0 p l) (g : Wd0 q l) : p = q := by
  rcases g.mem h.up with e | e
  · omega
  · omega
theorem low_reserved : ∀ r ∈ w_RESERVED, ∀ c ∈ r, 97 ≤ c := by decide
theorem low_base : ∀ r ∈ w_BASE_SORTS, ∀ c ∈ r, 97 ≤ c := by decide
theorem Wd0.not_low {p : Nat} {l : List Nat} (hp : p < 26) (h : Wd0 p l) (hl : ∀ c ∈ l, 97 ≤ c) : False := by
  have := hl _ h.up
  omega
theorem Wd0.name {p : Nat} {l : List Nat} (hp : p < 26) (h : Wd0 p l) : nameB l = true := by
  unfold nameB
  have h1 : decide (l ∈ w_RESERVED) = false := decide_eq_false fun z => h.not_low hp (low_reserved l z)
  have h2 : l.all (· < 128) = true := List.all_eq_true.mpr fun c hc => decide_eq_true (by rcases h.mem hc with e | e <;> omega)
  have lt_of : ∀ c ∈ l, NM.lt c = true := fun c hc => by
    unfold NM.lt
    rcases h.mem hc with e | e
    · rw [decide_eq_true (show 65 ≤ c ∧ c ≤ 90 by omega), Bool.or_true]
    · rw [decide_eq_true e]; rfl
  have h3 : NM.fst1 l = true := by
    cases e : l with
    | nil => have := h.up; rw [e] at this; cases this
    | cons c r =>
      show NM.lt c = true
      exact lt_of c (by rw [e]; exact List.mem_cons_self)
  have h4 : l.all NM.nc = true := List.all_eq_true.mpr fun c hc => by
    unfold NM.nc
    rw [lt_of c hc]
    rfl
  rw [h1, h2, h3, h4]
  rfl
theorem lay_of {l : List Nat} (h : ∀ c ∈ l, c < 128) : PyData.canLay0 (.str (S l)) = true := by
  show (S l).cps.all (· < 0x110000) = true
  rw [Array.all_eq_true_iff_forall_mem]
  intro c hc
  have : c ∈ l := by simpa [S] using hc
  have := h c this
  exact decide_eq_true (by omega)
theorem Wd0.lay {p : Nat} {l : List Nat} (hp : p < 26) (h : Wd0 p l) : PyData.canLay0 (.str (S l)) = true := lay_of fun c hc => by rcases h.mem hc with e | e <;> omega
theorem great_at {p : Nat} (hp : p < 26) : atI lit_1 ((p : Int) % 26) = some (65 + p) := by
  have : ∀ p : Nat, p < 26 → atI lit_1 ((p : Int) % 26) = some (65 + p) := by decide +kernel
  exact this p hp
section
variable {P : Program} {w : World} {K : PySem.W.Frag} {mg : Str → Option Value} {base : Heap}
def spWord : Sp := fun vs H Q _ => ∃ (q : Addr) (p : Nat), vs = [.ref q, .int (p : Int)] ∧ PoolAt H q ∧ p < 26 ∧ ∀ H' l, PX q H H' → Wd0 p l → Q (.str (S l)) H'
theorem ok_word (T : Txt K mg) : FnOk P w K mg base CX0 2 T.f_word T.fd_word ["_law_pool_here", "_law_place"] spWord := by
  have G_take := ok_take (P := P) (w := w) (base := base) T
  refine T.F_word.ok sc_word (fun vs H Q E h => ?_) (fun cdv A outer s H vs Q E hr h => ?_)
  · obtain ⟨q, p, rfl, _⟩ := h
    rfl
  · obtain ⟨q, p, rfl, hp, hp26, h⟩ := h
    refine ⟨_, (pss_cons (ps_set (i := 2) sc_word.nd rfl (.inl rfl) (MT.pe_strS (l := lit_0) (by decide +kernel)))
 (pss_cons (ps_set (i := 3) sc_word.nd rfl (.inl rfl) (MT.pe_strS (l := lit_1) (by decide +kernel)))
 (pss_cons (ps_set (i := 4) sc_word.nd rfl (.inl rfl) (pe_ix ix_str (pv 2) (pe_call G_take (hr.mono (by first | decide | omega)) (by rfl) T.g_take T.F_take.kp T.b_take .nil pass0 (pa_cons (pv 0) (pa_cons pe_int pa_nil))) (fun _ _ => rfl)))
 (pss_cons (ps_set (i := 5) sc_word.nd rfl (.inl rfl) (pe_call G_take (hr.mono (by first | decide | omega)) (by rfl) T.g_take T.F_take.kp T.b_take .nil pass0 (pa_cons (pv 0) (pa_cons pe_int pa_nil))))
 (pss_cons (ps_set (i := 6) sc_word.nd rfl (.inl rfl) (pe_call G_take (hr.mono (by first | decide | omega)) (by rfl) T.g_take T.F_take.kp T.b_take .nil pass0 (pa_cons (pv 0) (pa_cons (pe_op op_add (pv 5) pe_int) pa_nil))))
 (pss_one (ps_ret (pe_op MT.op_addS (pe_op MT.op_addS (pe_op MT.op_mulS (pv 4) (pv 6)) (pe_ix ix_str (pv 3) (pe_op op_mod (pe_callTy call_int1 (by rfl) T.m_int (by decide +kernel) (pa_cons (pv 1) pa_nil)) pe_int) (fun _ _ => rfl))) (pe_op MT.op_mulS (pv 4) (pe_op op_sub (pv 5) (pv 6))))))))))), ?_⟩
    refine Z.w_start (σ' := [some (.ref q), some (.int (p : Int)), none, none, none, none, none]) rfl ?_
    walk_at "w"
    refine use_takeP hp (by decide) (by decide) fun r1 H1 px1 a1 b1 => ?_
    obtain ⟨c, hc, hcm⟩ := MT.pickN (l := lit_0) a1 (by rw [show ((lit_0.length : Nat) : Int) = 26 from rfl]; exact b1)
    have hc2 : 97 ≤ c ∧ c ≤ 122 := by
      have : ∀ c ∈ lit_0, 97 ≤ c ∧ c ≤ 122 := by decide
      exact this c hcm
    have l0 : lit_0.length ≤ 100000 := by decide
    have l1 : lit_1.length ≤ 100000 := by decide
    refine MT.w_ixS l0 hc ?_
    walk_at "w"
    refine use_takeP px1.2 (by decide) (by decide) fun r2 H2 px2 a2 b2 => ?_
    walk_at "w"
    refine use_takeP px2.2 (by omega) (by omega) fun r3 H3 px3 a3 b3 => ?_
    walk_at "w"
    refine MT.w_mul1 a3 (by omega) ?_
    walk_at "w"
    refine MT.w_ixS l1 (great_at hp26) ?_
    have t3 : r3.toNat ≤ 4 := by omega
    refine MT.w_addS (by rw [List.length_replicate]; show r3.toNat + 1 ≤ 100000; omega) ?_
    walk_at "w"
    refine MT.w_mul1 (by omega) (by omega) ?_
    have t4 : r3.toNat + (r2 - r3).toNat ≤ 4 := by omega
    refine MT.w_addS (by rw [List.length_append, List.length_replicate, List.length_replicate]; show r3.toNat + 1 + (r2 - r3).toNat ≤ 100000; omega) ?_
    exact h H3 _ ((px1.trans px2).trans px3) ⟨c, r3.toNat, (r2 - r3).toNat, hc2.1, hc2.2, t4, rfl⟩
end
end L

namespace L
open PySem PySem.Spec PyProof.Rows L2 Z M
open _root_.SX (S S_len S_inj)
/-! the drawn world -/
structure WRow where
  name : List Nat
  args : List (List Nat)
  res : List Nat
abbrev WHOLE : List Nat := [119, 104, 111, 108, 101]
abbrev RATIO : List Nat := [114, 97, 116, 105, 111]
abbrev vS (l : List Nat) : V := .str (S l)
def baseSig (tl : List Nat) : List (List (List Nat) × List Nat) := [([], tl), ([], tl), ([], tl), ([tl], tl), ([tl], TRUTH), ([], WHOLE), ([], WHOLE), ([], WHOLE), ([WHOLE], WHOLE), ([], RATIO), ([], RATIO), ([RATIO], tl), ([], TRUTH), ([], TRUTH), ([tl, WHOLE], RATIO)]
def baseRows (tl : List Nat) (names : List (List Nat)) : List WRow := (names.zip (baseSig tl)).map fun p => ⟨p.1, p.2.1, p.2.2⟩
def RowAt (H : Hp) (a : Addr) (r : WRow) : Prop := ∃ b, H a = some (.tup [vS r.name, .ref b, vS r.res]) ∧ H b = some (.tup (r.args.map vS))
structure WdAt (H : Hp) (wa rl : Addr) (ra : List Addr) (tl : List Nat) (rows : List WRow) : Prop where
  w : H wa = some (.lst [vS tl, .ref rl])
  r : H rl = some (.lst (ra.map V.ref))
  len : ra.length = rows.length
  at_ : ∀ (i : Nat) (a : Addr) (r : WRow), ra[i]? = some a → rows[i]? = some r → RowAt H a r
theorem WdAt.ch {S : List Addr} {H H' : Hp} {wa rl : Addr} {ra : List Addr} {tl : List Nat} {rows : List WRow} (h : WdAt H wa rl ra tl rows) (c : Ch S H H') (m : NoTup S H) (n : ∀ b ∈ S, b ≠ wa ∧ b ≠ rl) : WdAt H' wa rl ra tl rows :=
  ⟨c _ _ (fun z => (n _ z).1 rfl) h.w, c _ _ (fun z => (n _ z).2 rfl) h.r, h.len, fun i a r e1 e2 => by
    obtain ⟨b, g1, g2⟩ := h.at_ i a r e1 e2
    exact ⟨b, c.tup m g1, c.tup m g2⟩⟩
theorem WdAt.same {H H' : Hp} {wa rl : Addr} {ra : List Addr} {tl : List Nat} {rows : List WRow} (h : WdAt H wa rl ra tl rows) (c : Same H H') : WdAt H' wa rl ra tl rows :=
  h.ch (S := []) (Ch.of c) (fun b hb => by cases hb) (fun b hb => by cases hb)
def TupsAt (H : Hp) : List Addr → List (List (List Nat)) → Prop
  | [], [] => True
  | a :: as, s :: ss => H a = some (.tup (s.map vS)) ∧ TupsAt H as ss
  | _, _ => False
theorem TupsAt.get {H : Hp} : ∀ {as : List Addr} {ss : List (List (List Nat))}, TupsAt H as ss → ∀ (i : Nat) (s : List (List Nat)), ss[i]? = some s → ∃ a, as[i]? = some a ∧ H a = some (.tup (s.map vS))
  | [], [], _, i, s, h => by simp at h
  | a :: as, t :: ss, h, 0, s, e => by
    simp only [List.getElem?_cons_zero, Option.some.injEq] at e
    subst e
    exact ⟨a, rfl, h.1⟩
  | a :: as, t :: ss, h, i + 1, s, e => by
    rw [List.getElem?_cons_succ] at e
    exact TupsAt.get h.2 i s e
theorem TupsAt.same {H H' : Hp} (s : Same H H') : ∀ {as : List Addr} {ss : List (List (List Nat))}, TupsAt H as ss → TupsAt H' as ss
  | [], [], _ => trivial
  | _ :: _, _ :: _, h => ⟨s _ _ h.1, TupsAt.same s h.2⟩
theorem PX.mutF {q D : Addr} {H H1 : Hp} {o : HO} (a : PX q H H1) (hq : PoolAt H q) (h : H D = none) : PX q H (upd H1 D o) := by
  refine ⟨a.1.own h, ?_, fun b x n e => by rw [upd_ne (ne_of_none e h)]; exact a.3 b x n e⟩
  obtain ⟨o', h2, hp⟩ := a.2
  refine ⟨o', ?_, hp⟩
  rw [upd_ne]
  · exact h2
  · rintro rfl
    obtain ⟨o3, h3, _⟩ := hq
    rw [h3] at h
    cases h
theorem ne_pool {q a : Addr} {H : Hp} {xs : List V} (h : PoolAt H q) (e : H a = some (.lst xs)) (n : ∀ c k b s, xs ≠ [.int c, .int k, .bl b, .int s]) : a ≠ q := fun z => by
  obtain ⟨o3, h3, c, k, b, s, rfl⟩ := h
  rw [z, h3] at e
  have e := Option.some.inj e
  injection e with e
  exact n c k b s e.symm
section
variable {P : Program} {w : World} {K : PySem.W.Frag} {mg : Str → Option Value} {base : Heap}
theorem w_catS {a b : Addr} {xs ys : List V} {H : Hp} {Q : VK} (ha : H a = some (.lst xs)) (hb : H b = some (.lst ys)) (hz : xs.length + ys.length ≤ 1000) (q : ∀ c H', Same H H' → H c = none → H' c = some (.lst (xs ++ ys)) → Q (.ref c) H') : rCat (.ref a) (.ref b) H Q := w_catL ha hb hz fun c hc => q c _ (same_of (Same.refl _) hc) hc upd_same
def spWorld : Sp := fun vs H Q _ => ∃ q : Addr, vs = [.ref q] ∧ PoolAt H q ∧ ∀ H' wa rl ra tl names, PX q H H' → Wd0 0 tl → names.length = 15 → (∀ (k : Nat) (n : List Nat), names[k]? = some n → Wd0 (k + 1) n) → WdAt H' wa rl ra tl (baseRows tl names) → H wa = none → H rl = none → Q (.ref wa) H'
theorem ok_world (T : Txt K mg) : FnOk P w K mg base CX0 3 T.f_world T.fd_world ["_law_pool_here"] spWorld := by
  have G_word := ok_word (P := P) (w := w) (base := base) T
  refine T.F_world.ok sc_world (fun vs H Q E h => ?_) (fun cdv A outer s H vs Q E hr h => ?_)
  · obtain ⟨q, rfl, _⟩ := h
    rfl
  · obtain ⟨q, rfl, hp, h⟩ := h
    refine ⟨_, (pss_cons (ps_set (i := 1) sc_world.nd rfl (.inl rfl) (pe_call G_word (hr.mono (by first | decide | omega)) (by rfl) T.g_word T.F_word.kp T.b_word .nil pass0 (pa_cons (pv 0) (pa_cons pe_int pa_nil))))
 (pss_cons (ps_set (i := 2) sc_world.nd rfl (.inr rfl) (pe_lst (pa_cons (pe_tup pa_nil) (pa_cons (pe_tup pa_nil) (pa_cons (pe_tup pa_nil) (pa_cons (pe_tup (pa_cons (pv 1) pa_nil)) (pa_cons (pe_tup (pa_cons (pv 1) pa_nil)) (pa_cons (pe_tup pa_nil) (pa_cons (pe_tup pa_nil) (pa_cons (pe_tup pa_nil) (pa_cons (pe_tup (pa_cons (MT.pe_strS (l := [119, 104, 111, 108, 101]) (by decide +kernel)) pa_nil)) (pa_cons (pe_tup pa_nil) (pa_cons (pe_tup pa_nil) (pa_cons (pe_tup (pa_cons (MT.pe_strS (l := [114, 97, 116, 105, 111]) (by decide +kernel)) pa_nil)) (pa_cons (pe_tup pa_nil) (pa_cons (pe_tup pa_nil) (pa_cons (pe_tup (pa_cons (pv 1) (pa_cons (MT.pe_strS (l := [119, 104, 111, 108, 101]) (by decide +kernel)) pa_nil))) pa_nil)))))))))))))))))
 (pss_cons (ps_set (i := 3) sc_world.nd rfl (.inr rfl) (pe_lst (pa_cons (pv 1) (pa_cons (pv 1) (pa_cons (pv 1) (pa_cons (pv 1) (pa_cons (MT.pe_strS (l := [116, 114, 117, 116, 104]) (by decide +kernel)) (pa_cons (MT.pe_strS (l := [119, 104, 111, 108, 101]) (by decide +kernel)) (pa_cons (MT.pe_strS (l := [119, 104, 111, 108, 101]) (by decide +kernel)) (pa_cons (MT.pe_strS (l := [119, 104, 111, 108, 101]) (by decide +kernel)) (pa_cons (MT.pe_strS (l := [119, 104, 111, 108, 101]) (by decide +kernel)) (pa_cons (MT.pe_strS (l := [114, 97, 116, 105, 111]) (by decide +kernel)) (pa_cons (MT.pe_strS (l := [114, 97, 116, 105, 111]) (by decide +kernel)) (pa_cons (pv 1) pa_nil))))))))))))))
 (pss_cons (ps_set (i := 3) sc_world.nd rfl (.inr rfl) (pe_op op_cat (pv 3) (pe_lst (pa_cons (MT.pe_strS (l := [116, 114, 117, 116, 104]) (by decide +kernel)) (pa_cons (MT.pe_strS (l := [116, 114, 117, 116, 104]) (by decide +kernel)) (pa_cons (MT.pe_strS (l := [114, 97, 116, 105, 111]) (by decide +kernel)) pa_nil))))))
 (pss_cons (ps_set (i := 4) sc_world.nd rfl (.inr rfl) (pe_lc (own := [("_law_k", 5)]) (g := gName 5) (tt := tYes) (by rfl) sc_world.nd (pi_range1 (by rfl) T.m_range (pa_cons pe_int pa_nil)) (blkOk_by (own := [("_law_k", 5)]) (N := N_world) (sc := defScope s_world) (by decide +kernel)) (fun _ _ _ _ _ => pg_name (i := 5) sc_world.nd rfl (Or.inl rfl)) (fun _ _ _ _ _ => pts_nil) (fun _ _ _ _ _ => (pe_call G_word (hr.mono (by first | decide | omega)) (by rfl) T.g_word T.F_word.kp T.b_word .nil pass0 (pa_cons (pv 0) (pa_cons (pe_op op_add (pv 5) pe_int) pa_nil))))))
 (pss_one (ps_ret (pe_lst (pa_cons (pv 1) (pa_cons (pe_lc (own := [("_law_k", 5)]) (g := gName 5) (tt := tYes) (by rfl) sc_world.nd (pi_range1 (by rfl) T.m_range (pa_cons pe_int pa_nil)) (blkOk_by (own := [("_law_k", 5)]) (N := N_world) (sc := defScope s_world) (by decide +kernel)) (fun _ _ _ _ _ => pg_name (i := 5) sc_world.nd rfl (Or.inl rfl)) (fun _ _ _ _ _ => pts_nil) (fun _ _ _ _ _ => (pe_tup (pa_cons (pe_ix (show IxR _ (rIxL K) from ix_list) (pv 4) (pv 5) (fun _ _ => rfl)) (pa_cons (pe_ix (show IxR _ (rIxL K) from ix_list) (pv 2) (pv 5) (fun _ _ => rfl)) (pa_cons (pe_ix (show IxR _ (rIxL K) from ix_list) (pv 3) (pv 5) (fun _ _ => rfl)) pa_nil)))))) pa_nil)))))))))), ?_⟩
    refine Z.w_start (σ' := [some (.ref q), none, none, none, none, none]) rfl ?_
    walk_at "w"
    refine ⟨q, 0, rfl, hp, by decide, fun H1 tl px1 wt => ?_⟩
    walk_at "w"
    rename_i t0 h0 t1 h1 t2 h2 t3 h3 t4 h4 t5 h5 t6 h6 t7 h7 t8 h8 t9 h9 t10 h10 t11 h11 t12 h12 t13 h13 t14 h14 R hR S1 hS1 S2 hS2
    refine w_catS (by walk_at "hp") (by walk_at "hp") (by show 12 + 3 ≤ 1000; decide) fun rs H2 sm2 _ ers => ?_
    have s12 : Same H1 H2 := Same.trans (by walk_at "same") sm2
    have eR : H2 R = some (.lst ([t0, t1, t2, t3, t4, t5, t6, t7, t8, t9, t10, t11, t12, t13, t14].map V.ref)) := sm2 _ _ (by walk_at "hp")
    have eT : TupsAt H2 [t0, t1, t2, t3, t4, t5, t6, t7, t8, t9, t10, t11, t12, t13, t14] ((baseSig tl).map (·.1)) := ⟨sm2 _ _ (by walk_at "hp"), sm2 _ _ (by walk_at "hp"), sm2 _ _ (by walk_at "hp"), sm2 _ _ (by walk_at "hp"), sm2 _ _ (by walk_at "hp"), sm2 _ _ (by walk_at "hp"), sm2 _ _ (by walk_at "hp"), sm2 _ _ (by walk_at "hp"), sm2 _ _ (by walk_at "hp"), sm2 _ _ (by walk_at "hp"), sm2 _ _ (by walk_at "hp"), sm2 _ _ (by walk_at "hp"), sm2 _ _ (by walk_at "hp"), sm2 _ _ (by walk_at "hp"), sm2 _ _ (by walk_at "hp"), trivial⟩
    generalize htl : [t0, t1, t2, t3, t4, t5, t6, t7, t8, t9, t10, t11, t12, t13, t14] = ts at eR eT
    have ers' : H2 rs = some (.lst ((baseSig tl).map fun p => vS p.2)) := ers
    have hp2 : PoolAt H2 q := px1.2.same s12
    have px2 : PX q H H2 := px1.same s12
    walk_at "w"
    refine ⟨by omega, by omega, fun D hD => ?_⟩
    have hD0 : H D = none := fresh_px px2 hp hD
    refine lc_range (lo := 0) (n := _) (fun i H' => PX q H2 H' ∧ ∃ names : List (List Nat), H' D = some (.lst (names.map vS)) ∧ names.length = i ∧ ∀ (k : Nat) (n : List Nat), names[k]? = some n → Wd0 (k + 1) n) ⟨(PX.refl hp2).new hD, [], upd_same, rfl, fun k n e => by simp at e⟩ ?_ ?_
    · rintro i H' hi ⟨px, names, eD, hl, hw⟩
      have hi15 : i < 15 := hi
      have e0 : (0 : Int) + (i : Int) = (i : Int) := Int.zero_add _
      rw [e0]
      refine Z.w_gname (σ' := [some (.ref q), some (vS tl), some (.ref R), some (.ref rs), none, some (.int (i : Int))]) rfl ⟨rfl, ?_⟩
      walk_at "w"
      refine ⟨q, i + 1, rfl, px.2, by omega, fun H3 n px3 wn => ?_⟩
      have nDq : D ≠ q := fun z => by
        obtain ⟨o3, h3, _⟩ := hp2
        rw [z, h3] at hD
        cases hD
      refine ⟨_, px3.3 _ _ nDq eD, ?_, (px.trans px3).mutF hp2 hD, names ++ [n], ?_, ?_, fun k m e => ?_⟩
      · rw [List.length_map, hl]
        exact Nat.lt_trans hi15 (by decide)
      · rw [upd_same, List.map_append]
        rfl
      · rw [List.length_append, hl]
        rfl
      · by_cases hk : k < names.length
        · rw [List.getElem?_append_left hk] at e
          exact hw k m e
        · have hlt := (List.getElem?_eq_some_iff.mp e).1
          rw [List.length_append, List.length_singleton] at hlt
          obtain rfl : k = names.length := by omega
          rw [List.getElem?_append_right (Nat.le_refl _), Nat.sub_self] at e
          obtain rfl := Option.some.inj e
          rw [hl]
          exact wn
    · rintro H' ⟨px, names, eD, hl, hw⟩
      have hl15 : names.length = 15 := hl
      have hp' := px.2
      have rest : ∀ b x, b ≠ q → H2 b = some x → H' b = some x := px.3
      have nRq : R ≠ q := ne_pool hp2 eR fun c k b s z => by cases ts <;> simp at z
      have nsq : rs ≠ q := ne_pool hp2 ers' fun c k b s z => by simp [baseSig] at z
      have eR' := rest _ _ nRq eR
      have ers2 := rest _ _ nsq ers'
      have eT' : ∀ (i : Nat) (s : List (List Nat)), ((baseSig tl).map (·.1))[i]? = some s → ∃ a, ts[i]? = some a ∧ H' a = some (.tup (s.map vS)) := fun i s e => by
        obtain ⟨a, a1, a2⟩ := eT.get i s e
        exact ⟨a, a1, rest _ _ (tup_pool hp2 a2) a2⟩
      walk_at "w"
      refine ⟨by omega, by omega, fun D2 hD2 => ?_⟩
      refine lc_range (lo := 0) (n := _) (fun i H3 => Same H' H3 ∧ ∃ ra : List Addr, H3 D2 = some (.lst (ra.map V.ref)) ∧ ra.length = i ∧ ∀ (k : Nat) (a : Addr) (r : WRow), ra[k]? = some a → (baseRows tl names)[k]? = some r → RowAt H3 a r) ⟨same_of (Same.refl _) hD2, [], upd_same, rfl, fun k a r e => by simp at e⟩ ?_ ?_
      · rintro i H3 hi ⟨s3, ra, eD2, hra, hrow⟩
        have hi15 : i < 15 := hi
        have e0 : (0 : Int) + (i : Int) = (i : Int) := Int.zero_add _
        rw [e0]
        obtain ⟨n, hn⟩ : ∃ n, names[i]? = some n := ⟨names[i], List.getElem?_eq_getElem (by omega)⟩
        obtain ⟨sg, hsg⟩ : ∃ sg, (baseSig tl)[i]? = some sg := ⟨(baseSig tl)[i]'hi15, List.getElem?_eq_getElem hi15⟩
        obtain ⟨ti, hti, eti⟩ := eT' i sg.1 (by rw [List.getElem?_map, hsg]; rfl)
        have f1 := s3 _ _ eD
        have f2 := s3 _ _ eR'
        have f3 := s3 _ _ ers2
        have g1 : atI (names.map vS) (i : Int) = some (vS n) := atI_nat (by rw [List.getElem?_map, hn]; rfl)
        have g2 : atI (ts.map V.ref) (i : Int) = some (.ref ti) := atI_nat (by rw [List.getElem?_map, hti]; rfl)
        have g3 : atI ((baseSig tl).map fun p => vS p.2) (i : Int) = some (vS sg.2) := atI_nat (by rw [List.getElem?_map, hsg]; rfl)
        refine Z.w_gname (σ' := [some (.ref q), some (vS tl), some (.ref R), some (.ref rs), some (.ref D), some (.int (i : Int))]) rfl ⟨rfl, ?_⟩
        walk_at "w"
        rename_i p hpn
        have n1 : p ≠ D2 := fun z => by rw [z, eD2] at hpn; cases hpn
        refine ⟨_, upd_of hpn eD2, ?_, same_mut (same_of s3 hpn) hD2, ra ++ [p], ?_, ?_, fun k a r e1 e2 => ?_⟩
        · rw [List.length_map, hra]
          exact Nat.lt_trans hi15 (by decide)
        · rw [upd_same, List.map_append]
          rfl
        · rw [List.length_append, hra]
          rfl
        · have keep : ∀ b ys, H3 b = some (.tup ys) → ∀ u, upd (upd H3 p (.tup [vS n, .ref ti, vS sg.2])) D2 u b = some (.tup ys) := fun b ys e u => by
            rw [upd_ne (fun z => by rw [z, eD2] at e; cases e)]
            exact upd_of hpn e
          by_cases hk : k < ra.length
          · rw [List.getElem?_append_left hk] at e1
            obtain ⟨b, q1, q2⟩ := hrow k a r e1 e2
            exact ⟨b, keep _ _ q1 _, keep _ _ q2 _⟩
          · have hlt := (List.getElem?_eq_some_iff.mp e1).1
            rw [List.length_append, List.length_singleton] at hlt
            obtain rfl : k = ra.length := by omega
            rw [List.getElem?_append_right (Nat.le_refl _), Nat.sub_self] at e1
            obtain rfl := Option.some.inj e1
            rw [hra] at e2
            have er : (baseRows tl names)[i]? = some ⟨n, sg.1, sg.2⟩ := by
              unfold baseRows
              rw [List.getElem?_map, (List.getElem?_zip_eq_some (z := (n, sg))).mpr ⟨hn, hsg⟩]
              rfl
            rw [er] at e2
            obtain rfl := Option.some.inj e2
            exact ⟨ti, by rw [upd_ne n1, upd_same], keep _ _ (s3 _ _ eti) _⟩
      · rintro H3 ⟨s3, ra, eD2, hra, hrow⟩
        have hra : ra.length = 15 := hra
        walk_at "w"
        rename_i wa hwa
        have pxF : PX q H H3 := (px2.trans px).same s3
        have len15 : (baseRows tl names).length = 15 := by
          unfold baseRows
          rw [List.length_map, List.length_zip, hl15]
          rfl
        have s4 : Same H3 (upd H3 wa (.lst [vS tl, .ref D2])) := same_of (Same.refl _) hwa
        refine h _ wa D2 ra tl names (pxF.same s4) wt hl15 hw ⟨upd_same, s4 _ _ eD2, by rw [hra, len15], fun i a r e1 e2 => ?_⟩ (fresh_px pxF hp hwa) (fresh_px (px2.trans px) hp hD2)
        obtain ⟨b, q1, q2⟩ := hrow i a r e1 e2
        exact ⟨b, s4 _ _ q1, s4 _ _ q2⟩
end
end L

namespace L
open PySem PySem.Spec PyProof.Rows L2 Z M
open _root_.SX (S S_len S_inj)
section
variable {P : Program} {w : World} {K : PySem.W.Frag} {mg : Str → Option Value} {base : Heap}
/-- one more row -/
theorem WdAt.push {H : Hp} {wa rl : Addr} {ra : List Addr} {tl : List Nat} {rows : List WRow} {a : Addr} {r : WRow} (h : WdAt H wa rl ra tl rows) (hr : RowAt H a r) (hne : wa ≠ rl) : WdAt (upd H rl (.lst (ra.map V.ref ++ [.ref a]))) wa rl (ra ++ [a]) tl (rows ++ [r]) := by
  have keep : ∀ b ys, H b = some (.tup ys) → upd H rl (.lst (ra.map V.ref ++ [.ref a])) b = some (.tup ys) := fun b ys e => by
    rw [upd_ne (fun z => by rw [z, h.r] at e; cases e)]
    exact e
  refine ⟨by rw [upd_ne hne]; exact h.w, by rw [upd_same, List.map_append]; rfl, by rw [List.length_append, List.length_append, h.len]; rfl, fun i b s e1 e2 => ?_⟩
  by_cases hi : i < rows.length
  · rw [List.getElem?_append_left (by rw [h.len]; exact hi)] at e1
    rw [List.getElem?_append_left hi] at e2
    obtain ⟨c, q1, q2⟩ := h.at_ i b s e1 e2
    exact ⟨c, keep _ _ q1, keep _ _ q2⟩
  · have hl := (List.getElem?_eq_some_iff.mp e2).1
    rw [List.length_append, List.length_singleton] at hl
    obtain rfl : i = rows.length := by omega
    rw [List.getElem?_append_right (Nat.le_refl _), Nat.sub_self] at e2
    rw [← h.len, List.getElem?_append_right (Nat.le_refl _), Nat.sub_self] at e1
    obtain rfl := Option.some.inj e1
    obtain rfl := Option.some.inj e2
    obtain ⟨c, q1, q2⟩ := hr
    exact ⟨c, keep _ _ q1, keep _ _ q2⟩
theorem WdAt.ne {H : Hp} {wa rl : Addr} {ra : List Addr} {tl : List Nat} {rows : List WRow} (h : WdAt H wa rl ra tl rows) : wa ≠ rl := fun z => by
  have e := h.w
  rw [z, h.r] at e
  have e := Option.some.inj e
  injection e with e
  cases ra with
  | nil => cases e
  | cons a ra =>
    injection e with e _
    cases e
theorem WdAt.nq {H : Hp} {q wa rl : Addr} {ra : List Addr} {tl : List Nat} {rows : List WRow} (h : WdAt H wa rl ra tl rows) (hp : PoolAt H q) : wa ≠ q ∧ rl ≠ q :=
  ⟨ne_pool hp h.w (fun c k b s z => by cases z), ne_pool hp h.r fun c k b s z => by cases ra <;> simp at z⟩
theorem WdAt.px {H H' : Hp} {q wa rl : Addr} {ra : List Addr} {tl : List Nat} {rows : List WRow} (h : WdAt H wa rl ra tl rows) (hp : PoolAt H q) (px : PX q H H') : WdAt H' wa rl ra tl rows :=
  h.ch (S := [q]) (Ch.px px (List.mem_singleton.mpr rfl)) (fun b hb ys e => tup_pool hp e (List.mem_singleton.mp hb)) fun b hb => by rw [List.mem_singleton.mp hb]; exact ⟨(h.nq hp).1.symm, (h.nq hp).2.symm⟩
def sort3 (tl : List Nat) : List (List Nat) := [tl, WHOLE, RATIO]
def sort4 (tl : List Nat) : List (List Nat) := [tl, WHOLE, RATIO, TRUTH]
def spWide : Sp := fun vs H Q _ => ∃ (q wa rl : Addr) (ra : List Addr) (tl : List Nat) (rows : List WRow), vs = [.ref q, .ref wa] ∧ PoolAt H q ∧ WdAt H wa rl ra tl rows ∧ rows.length ≤ 100 ∧
  ∀ H' ra' n16 n17 n18 as4 r4, Ch [q, rl] H H' → PoolAt H' q → Wd0 16 n16 → Wd0 17 n17 → Wd0 18 n18 → as4.length = 4 → (∀ a ∈ as4, a ∈ sort3 tl) → r4 ∈ sort4 tl →
    WdAt H' wa rl ra' tl (rows ++ [⟨n16, as4, r4⟩, ⟨n17, [WHOLE], WHOLE⟩, ⟨n18, [tl, WHOLE], RATIO⟩]) → Q .non H'
theorem ok_wide (T : Txt K mg) : FnOk P w K mg base CX0 3 T.f_wide T.fd_wide ["_law_pool_here", "_law_world_here"] spWide := by
  have G_word := ok_word (P := P) (w := w) (base := base) T
  have G_take := ok_take (P := P) (w := w) (base := base) T
  refine T.F_wide.ok sc_wide (fun vs H Q E h => ?_) (fun cdv A outer s H vs Q E hr h => ?_)
  · obtain ⟨q, wa, rl, ra, tl, rows, rfl, _⟩ := h
    rfl
  · obtain ⟨q, wa, rl, ra, tl, rows, rfl, hp, wd, hrl, h⟩ := h
    have ew := wd.w
    refine ⟨_, (pss_cons (ps_set (i := 2) sc_wide.nd rfl (.inr rfl) (pe_tup (pa_cons (pe_ix ix_list (pv 1) pe_int (fun _ _ => rfl)) (pa_cons (MT.pe_strS (l := [119, 104, 111, 108, 101]) (by decide +kernel)) (pa_cons (MT.pe_strS (l := [114, 97, 116, 105, 111]) (by decide +kernel)) pa_nil)))))
 (pss_cons (ps_set (i := 3) sc_wide.nd rfl (.inl rfl) (pe_callTy call_tuple_of (by rfl) T.m_tuple (by decide +kernel) (pa_cons (pe_lc (own := [("_law_k", 4)]) (g := gName 4) (tt := tYes) (by rfl) sc_wide.nd (pi_range1 (by rfl) T.m_range (pa_cons pe_int pa_nil)) (blkOk_by (own := [("_law_k", 4)]) (N := N_wide) (sc := defScope s_wide) (by decide +kernel)) (fun _ _ _ _ _ => pg_name (i := 4) sc_wide.nd rfl (Or.inl rfl)) (fun _ _ _ _ _ => pts_nil) (fun _ _ _ _ _ => (pe_ix (show IxR _ (rIxT K) from ix_tup) (pv 2) (pe_call G_take (hr.mono (by first | decide | omega)) (by rfl) T.g_take T.F_take.kp T.b_take .nil pass0 (pa_cons (pv 0) (pa_cons pe_int pa_nil))) (fun _ _ => rfl)))) pa_nil)))
 (pss_cons (ps_set (i := 5) sc_wide.nd rfl (.inl rfl) (pe_ix ix_tup (pe_tup (pa_cons (pe_ix ix_list (pv 1) pe_int (fun _ _ => rfl)) (pa_cons (MT.pe_strS (l := [119, 104, 111, 108, 101]) (by decide +kernel)) (pa_cons (MT.pe_strS (l := [114, 97, 116, 105, 111]) (by decide +kernel)) (pa_cons (MT.pe_strS (l := [116, 114, 117, 116, 104]) (by decide +kernel)) pa_nil))))) (pe_call G_take (hr.mono (by first | decide | omega)) (by rfl) T.g_take T.F_take.kp T.b_take .nil pass0 (pa_cons (pv 0) (pa_cons pe_int pa_nil))) (fun _ _ => rfl)))
 (pss_cons (ps_expr (pe_bm PySem.F.plainAttrs_list PySem.F.slot_list_append PySem.F.type_list_append mt_append (pe_ix ix_list (pv 1) pe_int (fun _ _ => rfl)) (pa_cons (pe_tup (pa_cons (pe_call G_word (hr.mono (by first | decide | omega)) (by rfl) T.g_word T.F_word.kp T.b_word .nil pass0 (pa_cons (pv 0) (pa_cons pe_int pa_nil))) (pa_cons (pv 3) (pa_cons (pv 5) pa_nil)))) pa_nil)))
 (pss_cons (ps_expr (pe_bm PySem.F.plainAttrs_list PySem.F.slot_list_append PySem.F.type_list_append mt_append (pe_ix ix_list (pv 1) pe_int (fun _ _ => rfl)) (pa_cons (pe_tup (pa_cons (pe_call G_word (hr.mono (by first | decide | omega)) (by rfl) T.g_word T.F_word.kp T.b_word .nil pass0 (pa_cons (pv 0) (pa_cons pe_int pa_nil))) (pa_cons (pe_tup (pa_cons (MT.pe_strS (l := [119, 104, 111, 108, 101]) (by decide +kernel)) pa_nil)) (pa_cons (MT.pe_strS (l := [119, 104, 111, 108, 101]) (by decide +kernel)) pa_nil)))) pa_nil)))
 (pss_one (ps_expr (pe_bm PySem.F.plainAttrs_list PySem.F.slot_list_append PySem.F.type_list_append mt_append (pe_ix ix_list (pv 1) pe_int (fun _ _ => rfl)) (pa_cons (pe_tup (pa_cons (pe_call G_word (hr.mono (by first | decide | omega)) (by rfl) T.g_word T.F_word.kp T.b_word .nil pass0 (pa_cons (pv 0) (pa_cons pe_int pa_nil))) (pa_cons (pe_tup (pa_cons (pe_ix ix_list (pv 1) pe_int (fun _ _ => rfl)) (pa_cons (MT.pe_strS (l := [119, 104, 111, 108, 101]) (by decide +kernel)) pa_nil))) (pa_cons (MT.pe_strS (l := [114, 97, 116, 105, 111]) (by decide +kernel)) pa_nil)))) pa_nil))))))))), ?_⟩
    refine Z.w_start (σ' := [some (.ref q), some (.ref wa), none, none, none, none]) rfl ?_
    walk_at "w"
    rename_i ts hts
    refine ⟨by omega, by omega, fun D hD => ?_⟩
    have s1 : Same H (upd H ts (.tup [vS tl, vS WHOLE, vS RATIO])) := same_of (Same.refl _) hts
    have e1 : upd H ts (.tup [vS tl, vS WHOLE, vS RATIO]) ts = some (.tup [vS tl, vS WHOLE, vS RATIO]) := upd_same
    have hD0 : H D = none := fresh_of1 s1 hD
    change upd H ts (.tup [vS tl, vS WHOLE, vS RATIO]) D = none at hD
    have hp1 := hp.same s1
    refine lc_range (lo := 0) (n := _) (fun i H' => PX q (upd H ts (.tup [vS tl, vS WHOLE, vS RATIO])) H' ∧ ∃ as : List (List Nat), H' D = some (.lst (as.map vS)) ∧ as.length = i ∧ ∀ a ∈ as, a ∈ sort3 tl) ⟨(PX.refl hp1).new hD, [], upd_same, rfl, fun a e => by cases e⟩ ?_ ?_
    · rintro i H' hi ⟨px, as, eD, hl, has⟩
      have hi4 : i < 4 := hi
      have e0 : (0 : Int) + (i : Int) = (i : Int) := Int.zero_add _
      rw [e0]
      refine Z.w_gname (σ' := [some (.ref q), some (.ref wa), some (.ref ts), none, some (.int (i : Int)), none]) rfl ⟨rfl, ?_⟩
      walk_at "w"
      refine use_takeP px.2 (by decide) (by decide) fun r H2 px2 r0 r1 => ?_
      have ets := px2.3 _ _ (tup_pool hp1 e1) (px.3 _ _ (tup_pool hp1 e1) e1)
      obtain ⟨k, rfl⟩ := Int.eq_ofNat_of_zero_le r0
      have hk : k < (sort3 tl).length := by show k < 3; omega
      have g : atI [vS tl, vS WHOLE, vS RATIO] (k : Int) = some (vS (sort3 tl)[k]) := atI_nat (by
        show ((sort3 tl).map vS)[k]? = _
        rw [List.getElem?_map, List.getElem?_eq_getElem hk]
        rfl)
      refine Z.w_ixTH ets g ?_
      have nDq : D ≠ q := fun z => by
        obtain ⟨o3, h3, _⟩ := hp1
        rw [z, h3] at hD
        cases hD
      refine ⟨_, px2.3 _ _ nDq eD, ?_, (px.trans px2).mutF hp1 hD, as ++ [(sort3 tl)[k]], ?_, ?_, fun a ha => ?_⟩
      · rw [List.length_map, hl]
        exact Nat.lt_trans hi4 (by decide)
      · rw [upd_same, List.map_append]
        rfl
      · rw [List.length_append, hl]
        rfl
      · rcases List.mem_append.mp ha with ha | ha
        · exact has a ha
        · rw [List.mem_singleton.mp ha]
          exact List.getElem_mem hk
    · rintro H2 ⟨px, as, eD, hl, has⟩
      have hl4 : as.length = 4 := hl
      have pxH : PX q H H2 := (⟨(PX.refl hp).1, hp, fun b x _ e => e⟩ : PX q H H).trans (((PX.refl hp).same s1).trans px)
      have wd2 := wd.px hp pxH
      have ew2 := wd2.w
      walk_at "w"
      refine ⟨D, _, rfl, .inl ⟨.inl (.inl eD), fun ta hta => ?_⟩⟩
      have c3 : Ch [q, rl] H (upd H2 ta (.tup (as.map vS))) := (Ch.px pxH (by simp)).new hta
      have s3 : Same H2 (upd H2 ta (.tup (as.map vS))) := same_of (Same.refl _) hta
      have eta : upd H2 ta (.tup (as.map vS)) ta = some (.tup (as.map vS)) := upd_same
      have hp3 := pxH.2.same s3
      have wd3 := wd2.same s3
      generalize upd H2 ta (.tup (as.map vS)) = H3 at c3 s3 eta hp3 wd3 ⊢
      have ew3 := wd3.w
      walk_at "w"
      rename_i t4 ht4
      have s4 : Same H3 (upd H3 t4 (.tup [vS tl, vS WHOLE, vS RATIO, vS TRUTH])) := same_of (Same.refl _) ht4
      have et4 : upd H3 t4 (.tup [vS tl, vS WHOLE, vS RATIO, vS TRUTH]) t4 = some (.tup [vS tl, vS WHOLE, vS RATIO, vS TRUTH]) := upd_same
      refine use_takeP (hp3.same s4) (by decide) (by decide) fun r H5 px5 r0 r1 => ?_
      have et5 : H5 t4 = some (.tup [vS tl, vS WHOLE, vS RATIO, vS TRUTH]) := px5.3 _ _ (tup_pool (hp3.same s4) et4) et4
      have eta5 : H5 ta = some (.tup (as.map vS)) := px5.3 _ _ (tup_pool (hp3.same s4) (s4 _ _ eta)) (s4 _ _ eta)
      have wd5 : WdAt H5 wa rl ra tl rows := (wd3.same s4).px (hp3.same s4) px5
      have c5 : Ch [q, rl] H H5 := c3.trans ((Ch.of s4).trans (Ch.px px5 (by simp)))
      have hp5 := px5.2
      obtain ⟨k, rfl⟩ := Int.eq_ofNat_of_zero_le r0
      have hk : k < (sort4 tl).length := by show k < 4; omega
      have g : atI [vS tl, vS WHOLE, vS RATIO, vS TRUTH] (k : Int) = some (vS (sort4 tl)[k]) := atI_nat (by
        show ((sort4 tl).map vS)[k]? = _
        rw [List.getElem?_map, List.getElem?_eq_getElem hk]
        rfl)
      have hr4 : (sort4 tl)[k] ∈ sort4 tl := List.getElem_mem hk
      generalize (sort4 tl)[k] = r4 at g hr4
      refine Z.w_ixTH et5 g ?_
      have ew5 := wd5.w
      walk_at "w"
      refine Z.w_bm ?_
      walk_at "w"
      refine Z.w_tyL wd5.r ?_
      walk_at "w"
      refine ⟨q, 16, rfl, hp5, by decide, fun H6 n16 px6 w16 => ?_⟩
      have wd6 := wd5.px hp5 px6
      have eta6 := px6.3 _ _ (tup_pool hp5 eta5) eta5
      have c6 : Ch [q, rl] H H6 := c5.trans (Ch.px px6 (by simp))
      walk_at "w"
      rename_i p1 hp1n
      have s7 : Same H6 (upd H6 p1 (.tup [vS n16, .ref ta, vS r4])) := same_of (Same.refl _) hp1n
      have wd7 := wd6.same s7
      have row1 : RowAt (upd H6 p1 (.tup [vS n16, .ref ta, vS r4])) p1 ⟨n16, as, r4⟩ := ⟨ta, upd_same, s7 _ _ eta6⟩
      have c7 : Ch [q, rl] H (upd H6 p1 (.tup [vS n16, .ref ta, vS r4])) := c6.trans (Ch.of s7)
      have hp7 := px6.2.same s7
      generalize upd H6 p1 (.tup [vS n16, .ref ta, vS r4]) = H7 at s7 wd7 row1 c7 hp7 ⊢
      have hral : ra.length ≤ 100 := by rw [wd.len]; exact hrl
      refine Z.w_app wd7.r (by rw [List.length_map]; omega) ?_
      have wd8 := wd7.push row1 wd7.ne
      have c8 : Ch [q, rl] H (upd H7 rl (.lst (ra.map V.ref ++ [.ref p1]))) := c7.put (by simp)
      have hp8 : PoolAt (upd H7 rl (.lst (ra.map V.ref ++ [.ref p1]))) q := by
        obtain ⟨o3, h3, h4⟩ := id hp7
        exact ⟨o3, by rw [upd_ne (wd7.nq hp7).2.symm]; exact h3, h4⟩
      generalize upd H7 rl (.lst (ra.map V.ref ++ [.ref p1])) = H8 at wd8 c8 hp8 ⊢
      have ew8 := wd8.w
      walk_at "w"
      refine Z.w_bm ?_
      walk_at "w"
      refine Z.w_tyL wd8.r ?_
      walk_at "w"
      refine ⟨q, 17, rfl, hp8, by decide, fun H9 n17 px9 w17 => ?_⟩
      have wd9 := wd8.px hp8 px9
      have c9 : Ch [q, rl] H H9 := c8.trans (Ch.px px9 (by simp))
      walk_at "w"
      rename_i p2 hp2n p3 hp3n
      have s10 : Same H9 (upd (upd H9 p2 (.tup [vS WHOLE])) p3 (.tup [vS n17, .ref p2, vS WHOLE])) := same_of (same_of (Same.refl _) hp2n) hp3n
      have wd10 := wd9.same s10
      have row2 : RowAt (upd (upd H9 p2 (.tup [vS WHOLE])) p3 (.tup [vS n17, .ref p2, vS WHOLE])) p3 ⟨n17, [WHOLE], WHOLE⟩ := ⟨p2, upd_same, upd_of hp3n upd_same⟩
      have c10 : Ch [q, rl] H (upd (upd H9 p2 (.tup [vS WHOLE])) p3 (.tup [vS n17, .ref p2, vS WHOLE])) := c9.trans (Ch.of s10)
      have hp10 := px9.2.same s10
      generalize upd (upd H9 p2 (.tup [vS WHOLE])) p3 (.tup [vS n17, .ref p2, vS WHOLE]) = H10 at s10 wd10 row2 c10 hp10 ⊢
      refine Z.w_app wd10.r (by rw [List.length_map, List.length_append]; show ra.length + 1 < 100000; omega) ?_
      have wd11 := wd10.push row2 wd10.ne
      have c11 : Ch [q, rl] H (upd H10 rl (.lst ((ra ++ [p1]).map V.ref ++ [.ref p3]))) := c10.put (by simp)
      have hp11 : PoolAt (upd H10 rl (.lst ((ra ++ [p1]).map V.ref ++ [.ref p3]))) q := by
        obtain ⟨o3, h3, h4⟩ := id hp10
        exact ⟨o3, by rw [upd_ne (wd10.nq hp10).2.symm]; exact h3, h4⟩
      generalize upd H10 rl (.lst ((ra ++ [p1]).map V.ref ++ [.ref p3])) = H11 at wd11 c11 hp11 ⊢
      have ew11 := wd11.w
      walk_at "w"
      refine Z.w_bm ?_
      walk_at "w"
      refine Z.w_tyL wd11.r ?_
      walk_at "w"
      refine ⟨q, 18, rfl, hp11, by decide, fun H12 n18 px12 w18 => ?_⟩
      have wd12 := wd11.px hp11 px12
      have c12 : Ch [q, rl] H H12 := c11.trans (Ch.px px12 (by simp))
      have ew12 := wd12.w
      walk_at "w"
      rename_i p4 hp4n p5 hp5n
      have s13 : Same H12 (upd (upd H12 p4 (.tup [vS tl, vS WHOLE])) p5 (.tup [vS n18, .ref p4, vS RATIO])) := same_of (same_of (Same.refl _) hp4n) hp5n
      have wd13 := wd12.same s13
      have row3 : RowAt (upd (upd H12 p4 (.tup [vS tl, vS WHOLE])) p5 (.tup [vS n18, .ref p4, vS RATIO])) p5 ⟨n18, [tl, WHOLE], RATIO⟩ := ⟨p4, upd_same, upd_of hp5n upd_same⟩
      have c13 : Ch [q, rl] H (upd (upd H12 p4 (.tup [vS tl, vS WHOLE])) p5 (.tup [vS n18, .ref p4, vS RATIO])) := c12.trans (Ch.of s13)
      have hp13 := px12.2.same s13
      generalize upd (upd H12 p4 (.tup [vS tl, vS WHOLE])) p5 (.tup [vS n18, .ref p4, vS RATIO]) = H13 at s13 wd13 row3 c13 hp13 ⊢
      refine Z.w_app wd13.r (by rw [List.length_map, List.length_append, List.length_append]; show ra.length + 1 + 1 < 100000; omega) ?_
      have wd14 := wd13.push row3 wd13.ne
      have c14 : Ch [q, rl] H (upd H13 rl (.lst ((ra ++ [p1] ++ [p3]).map V.ref ++ [.ref p5]))) := c13.put (by simp)
      have hp14 : PoolAt (upd H13 rl (.lst ((ra ++ [p1] ++ [p3]).map V.ref ++ [.ref p5]))) q := by
        obtain ⟨o3, h3, h4⟩ := id hp13
        exact ⟨o3, by rw [upd_ne (wd13.nq hp13).2.symm]; exact h3, h4⟩
      walk_at "w"
      refine h _ (ra ++ [p1] ++ [p3] ++ [p5]) n16 n17 n18 as r4 c14 hp14 w16 w17 w18 hl4 has hr4 ?_
      rw [show rows ++ [(⟨n16, as, r4⟩ : WRow), ⟨n17, [WHOLE], WHOLE⟩, ⟨n18, [tl, WHOLE], RATIO⟩] = rows ++ [⟨n16, as, r4⟩] ++ [⟨n17, [WHOLE], WHOLE⟩] ++ [⟨n18, [tl, WHOLE], RATIO⟩] by simp]
      exact wd14
end
end L

namespace L
open PySem PySem.Spec PyProof.Rows L2 Z M
open _root_.SX (S S_len S_inj)
def WRow.fn (r : WRow) : FnRow := (S r.name, r.args.map S, S r.res)
structure WOk (tl : List Nat) (rows : List WRow) : Prop where
  tn : nameB tl = true
  tz : tl.length ≤ 1000
  nm : ∀ r ∈ rows, nameB r.name = true ∧ r.name.length ≤ 1000 ∧ r.name ≠ tl
  nd : (rows.map (·.name)).Nodup
  ar : ∀ r ∈ rows, r.args.length ≤ 50 ∧ ∀ a ∈ r.args, a ∈ sort3 tl
  rs : ∀ r ∈ rows, r.res ∈ sort4 tl
theorem not_reserved {l : List Nat} (h : nameB l = true) : l ∉ w_RESERVED := fun z => by
  unfold nameB at h
  rw [decide_eq_true z] at h
  cases h
theorem lookup_fn {rows : List WRow} {l : List Nat} (h : l ∉ rows.map (·.name)) : (rows.map WRow.fn).lookup (S l) = none := by
  induction rows with
  | nil => rfl
  | cons r rows ih =>
    rw [List.map_cons, List.mem_cons, not_or] at h
    rw [List.map_cons]
    show List.lookup (S l) ((S r.name, r.args.map S, S r.res) :: rows.map WRow.fn) = none
    rw [List.lookup_cons, beq_eq_false_iff_ne.mpr (fun z => h.1 (S_inj z))]
    exact ih h.2
theorem lookup_at {rows : List WRow} (hn : (rows.map (·.name)).Nodup) {r : WRow} (hr : r ∈ rows) : (rows.map WRow.fn).lookup (S r.name) = some (r.args.map S, S r.res) := by
  induction rows with
  | nil => cases hr
  | cons s rows ih =>
    rw [List.map_cons, List.nodup_cons] at hn
    rw [List.map_cons]
    show List.lookup (S r.name) ((S s.name, s.args.map S, S s.res) :: rows.map WRow.fn) = _
    rw [List.lookup_cons]
    by_cases e : r.name = s.name
    · rw [e, beq_self_eq_true]
      rcases List.mem_cons.mp hr with rfl | hr
      · rfl
      · exact absurd (List.mem_map.mpr ⟨r, hr, e⟩) hn.1
    · rw [beq_eq_false_iff_ne.mpr (fun z => e (S_inj z))]
      rcases List.mem_cons.mp hr with rfl | hr
      · exact absurd rfl e
      · exact ih hn.2 hr
section
variable {P : Program} {w : World} {K : PySem.W.Frag} {mg : Str → Option Value} {base : Heap}
def spDecl (CS : Addr) : Sp := fun vs H Q _ => ∃ (wa rl sg : Addr) (ra : List Addr) (tl : List Nat) (rows : List WRow) (tg : SgO), vs = [.ref wa, .ref sg] ∧ WdAt H wa rl ra tl rows ∧ WOk tl rows ∧ rows.length ≤ 100 ∧ SigAt CS H sg tg [] [] ∧
  ∀ H', Ch [tg.ds, tg.df] H H' → SigAt CS H' sg tg [S tl] (rows.map WRow.fn) → Q .non H'
theorem ok_declare (T : Txt K mg) : FnOk P w K mg base CX0 4 T.f_declare T.fd_declare ["_law_world_here", "_law_desk"] (spDecl T.C_Signature) := by
  have G_Signature_declare_sort := ok_declS (P := P) (w := w) (base := base) T
  have G_Signature_declare_function := ok_declF (P := P) (w := w) (base := base) T
  refine T.F_declare.ok sc_declare (fun vs H Q E h => ?_) (fun cdv A outer s H vs Q E hr h => ?_)
  · obtain ⟨wa, rl, sg, ra, tl, rows, tg, rfl, _⟩ := h
    rfl
  · obtain ⟨wa, rl, sg, ra, tl, rows, tg, rfl, wd, wo, hrl, sgA, h⟩ := h
    have ew := wd.w
    refine ⟨_, (pss_cons (ps_expr (pe_meth (pv 1) T.cl_Signature T.M_Signature_declare_sort G_Signature_declare_sort (hr.mono (by first | decide | omega)) T.b_Signature_declare_sort .nil pass0 (pa_cons (pe_ix ix_list (pv 0) pe_int (fun _ _ => rfl)) pa_nil)))
 (pss_one (ps_for PassesOwn.never rfl (pi_list (pe_ix ix_list (pv 0) pe_int (fun _ _ => rfl))) (pg_name (i := 2) sc_declare.nd rfl (.inl rfl)) (pss_one (ps_expr (pe_meth (pv 1) T.cl_Signature T.M_Signature_declare_function G_Signature_declare_function (hr.mono (by first | decide | omega)) T.b_Signature_declare_function .nil pass0 (pa_cons (pe_ix ix_tup (pv 2) pe_int (fun _ _ => rfl)) (pa_cons (pe_callTy call_list_of (by rfl) T.m_list (by decide +kernel) (pa_cons (pe_ix ix_tup (pv 2) pe_int (fun _ _ => rfl)) pa_nil)) (pa_cons (pe_ix ix_tup (pv 2) pe_int (fun _ _ => rfl)) pa_nil))))))))), ?_⟩
    refine Z.w_start (σ' := [some (.ref wa), some (.ref sg), none]) rfl ?_
    walk_at "w"
    refine w_meth0 sgA.obj rfl (by rfl) ?_
    walk_at "w"
    refine ⟨sg, tg, [], [], tl, rfl, sgA, wo.tz, wo.tn, by simp, rfl, by decide, fun H1 c1 sg1 => ?_⟩
    obtain ⟨ks0, hs0, _⟩ := sgA.so
    obtain ⟨kf0, hf0, _⟩ := sgA.fu
    have nt : ∀ (Hx : Hp) (ss : List Str) (fs : List FnRow), SigAt T.C_Signature Hx sg tg ss fs → NoTup [tg.ds, tg.df] Hx := fun Hx ss fs sx b hb ys e => by
      obtain ⟨k1, h1, _⟩ := sx.so
      obtain ⟨k2, h2, _⟩ := sx.fu
      rcases List.mem_cons.mp hb with z | hb
      · rw [z, h1] at e; cases e
      · rw [List.mem_singleton.mp hb, h2] at e; cases e
    have nw : ∀ b ∈ [tg.ds, tg.df], b ≠ wa ∧ b ≠ rl := fun b hb => by
      rcases List.mem_cons.mp hb with z | hb
      · rw [z]; exact ⟨(ne_ld wd.w hs0).symm, (ne_ld wd.r hs0).symm⟩
      · rw [List.mem_singleton.mp hb]; exact ⟨(ne_ld wd.w hf0).symm, (ne_ld wd.r hf0).symm⟩
    have c1' : Ch [tg.ds, tg.df] H H1 := c1.sup (by simp)
    have wd1 := wd.ch c1' (nt H _ _ sgA) nw
    have ew1 := wd1.w
    have sg1' : SigAt T.C_Signature H1 sg tg [S tl] ((rows.take 0).map WRow.fn) := sg1
    walk_at "w"
    refine ⟨⟨_, .inl (.inl wd1.r)⟩, ?_⟩
    have hral : ra.length ≤ 100 := by rw [wd.len]; exact hrl
    refine for_list (xs := ra.map V.ref) (fun i σ' H' => ∃ v, σ' = [some (.ref wa), some (.ref sg), v] ∧ Ch [tg.ds, tg.df] H H' ∧ SigAt T.C_Signature H' sg tg [S tl] ((rows.take i).map WRow.fn)) ⟨_, rfl, c1', sg1'⟩ (fun i σ' H' _ ⟨_, _, c, _⟩ => .inl (.inl (wd.ch c (nt H _ _ sgA) nw).r)) ?_ ?_
    · rintro i x σ' H' hx ⟨v, rfl, c, sgx⟩
      rw [List.getElem?_map] at hx
      obtain ⟨a, ha, rfl⟩ := Option.map_eq_some_iff.mp hx
      have hi : i < rows.length := by rw [← wd.len]; exact (List.getElem?_eq_some_iff.mp ha).1
      obtain ⟨r, hr⟩ : ∃ r, rows[i]? = some r := ⟨rows[i], List.getElem?_eq_getElem hi⟩
      have hrm := List.mem_of_getElem? hr
      have wdx := wd.ch c (nt H _ _ sgA) nw
      obtain ⟨b, e1, e2⟩ := wdx.at_ i a r ha hr
      obtain ⟨m1, m2, m3⟩ := wo.nm r hrm
      obtain ⟨a1, a2⟩ := wo.ar r hrm
      have a3 := wo.rs r hrm
      walk_at "w"
      refine w_meth0 sgx.obj rfl (by rfl) ?_
      walk_at "w"
      intro l hl
      have sl : Same H' (upd H' l (.lst (r.args.map vS))) := same_of (Same.refl _) hl
      have el : upd H' l (.lst (r.args.map vS)) l = some (.lst (r.args.map vS)) := upd_same
      have sgl := sgx.same sl
      have e1l := sl _ _ e1
      have cl := c.trans (Ch.of sl)
      generalize upd H' l (.lst (r.args.map vS)) = H2 at sl el sgl e1l cl ⊢
      walk_at "w"
      have okl : ∀ {z : List Nat}, z ∈ sort4 tl → okSort [S tl] z := fun {z} hz => by
        rcases List.mem_cons.mp hz with e | hz
        · rw [e]; exact .inr (by simp)
        · refine .inl ?_
          have : ∀ z ∈ [WHOLE, RATIO, TRUTH], z ∈ w_BASE_SORTS := by decide
          exact this z hz
      refine ⟨sg, tg, [S tl], _, r.name, l, r.args, r.res, rfl, sgl, m2, m1, ?_, ?_, ?_, el, a1, fun z hz => ⟨okl (by
        have := a2 z hz
        unfold sort3 at this
        unfold sort4
        simp only [List.mem_cons, List.not_mem_nil, or_false] at this ⊢
        rcases this with e | e | e
        · exact .inl e
        · exact .inr (.inl e)
        · exact .inr (.inr (.inl e))), fun e => ?_⟩, okl a3, fun H3 c3 sg3 => ?_⟩
      · rw [List.mem_singleton]
        exact fun z => m3 (S_inj z)
      · refine lookup_fn fun z => ?_
        rw [List.mem_map] at z
        obtain ⟨r', hr', en⟩ := z
        obtain ⟨j, hj⟩ := List.mem_iff_getElem?.mp hr'
        have hj1 := (List.getElem?_eq_some_iff.mp hj).1
        rw [List.length_take] at hj1
        rw [List.getElem?_take, if_pos (by omega)] at hj
        have nd := wo.nd
        rw [List.nodup_iff_pairwise_ne, List.pairwise_iff_getElem] at nd
        obtain ⟨j2, j3⟩ := List.getElem?_eq_some_iff.mp hj
        obtain ⟨i2, i3⟩ := List.getElem?_eq_some_iff.mp hr
        exact nd j i (by rw [List.length_map]; exact j2) (by rw [List.length_map]; exact i2) (by omega) (by rw [List.getElem_map, List.getElem_map, j3, i3]; exact en)
      · rw [List.length_map, List.length_take]
        omega
      · have ht := a2 z hz
        rw [e] at ht
        rcases List.mem_cons.mp ht with q | q
        · exact not_reserved wo.tn (by rw [← q]; decide)
        · revert q; decide
      · walk_at "w"
        have cc : Ch [tg.ds, tg.df] H H3 := cl.trans (c3.sup (by simp))
        have sc : SigAt T.C_Signature H3 sg tg [S tl] ((rows.take (i + 1)).map WRow.fn) := by
          rw [List.take_add_one, hr, List.map_append]
          exact sg3
        first | exact ⟨_, rfl, cc, sc⟩ | exact ⟨cc, sc⟩ | exact sc
    · rintro σ' H' ⟨v, rfl, c, sgx⟩
      rw [List.length_map, wd.len, List.take_length] at sgx
      exact h H' c sgx
end
end L

namespace L
open PySem PySem.Spec PyProof.Rows L2 Z M
open _root_.SX (S S_len S_inj)
/-! alike -/
mutual
def gdL : PyData → Bool
  | .none => true
  | .int _ => true
  | .str _ => true
  | .tuple xs => decide (xs.length ≤ 1000) && gdLs xs
  | .list _ => false
  | .bool _ => false
  | .dict _ => false
def gdLs : List PyData → Bool
  | [] => true
  | x :: xs => gdL x && gdLs xs
end
theorem gdLs_mem : ∀ {xs : List PyData} {x : PyData}, gdLs xs = true → x ∈ xs → gdL x = true
  | y :: ys, x, h, hx => by
    unfold gdLs at h
    rw [Bool.and_eq_true] at h
    rcases List.mem_cons.mp hx with e | m
    · rw [e]; exact h.1
    · exact gdLs_mem h.2 m
theorem gdLs_of : ∀ {xs : List PyData}, (∀ x ∈ xs, gdL x = true) → gdLs xs = true
  | [], _ => rfl
  | y :: ys, h => by
    unfold gdLs
    rw [h y List.mem_cons_self, gdLs_of fun x hx => h x (List.mem_cons_of_mem _ hx)]
    rfl
theorem depL_mem : ∀ {xs : List PyData} {x : PyData}, x ∈ xs → x.depth ≤ PyData.depthAll xs
  | y :: ys, x, h => by
    unfold PyData.depthAll
    rcases List.mem_cons.mp h with e | m
    · rw [e]; exact Nat.le_max_left _ _
    · exact Nat.le_trans (depL_mem m) (Nat.le_max_right _ _)
section
variable {P : Program} {w : World} {K : PySem.W.Frag} {mg : Str → Option Value} {base : Heap}
theorem DpAllL.len {H : Hp} : ∀ {vs : List V} {ds : List PyData}, DpAll K H vs ds → vs.length = ds.length
  | _, _, .nil => rfl
  | _, _, .cons _ t => by rw [List.length_cons, List.length_cons, DpAllL.len t]
theorem DpAllL.get {H : Hp} : ∀ {vs : List V} {ds : List PyData} {i : Nat} {d : PyData}, DpAll K H vs ds → ds[i]? = some d → ∃ v, vs[i]? = some v ∧ Dp K H v d
  | _, _, i, v, .nil, e => by simp at e
  | _, _, 0, v, .cons h t, e => by
    simp only [List.getElem?_cons_zero, Option.some.injEq] at e
    subst e
    exact ⟨_, rfl, h⟩
  | _, _, i + 1, v, .cons h t, e => by
    rw [List.getElem?_cons_succ] at e
    obtain ⟨d, h1, h2⟩ := DpAllL.get (i := i) t e
    exact ⟨d, by rw [List.getElem?_cons_succ]; exact h1, h2⟩
theorem w_isiT_b {H : Hp} {p : Addr} {xs : List V} {Q : VK} (h : SqT K H p xs) (q : Q (.bl false) H) : rIsi K [.ref p, .ty "bool"] H Q := Z.w_isi (.ty _) (tyx_T h) (kit_ty (by decide +kernel)) q
theorem w_isiT_i {H : Hp} {p : Addr} {xs : List V} {Q : VK} (h : SqT K H p xs) (q : Q (.bl false) H) : rIsi K [.ref p, .ty "int"] H Q := Z.w_isi (.ty _) (tyx_T h) (kit_ty (by decide +kernel)) q
theorem w_isiT_s {H : Hp} {p : Addr} {xs : List V} {Q : VK} (h : SqT K H p xs) (q : Q (.bl false) H) : rIsi K [.ref p, .ty "str"] H Q := Z.w_isi (.ty _) (tyx_T h) (kit_ty (by decide +kernel)) q
theorem w_isiT_l {H : Hp} {p : Addr} {xs : List V} {Q : VK} (h : SqT K H p xs) (q : Q (.bl false) H) : rIsi K [.ref p, .ty "list"] H Q := Z.w_isi (.ty _) (tyx_T h) (kit_ty (by decide +kernel)) q
theorem w_ixQT {H : Hp} {p : Addr} {xs : List V} {k : Int} {v : V} {Q : VK} (h : SqT K H p xs) (a : atI xs k = some v) (q : Q v H) : rIx K (.ref p) (.int k) H Q := .inr (.inl (Z.w_ixT h a q))
theorem w_ixQL {H : Hp} {p : Addr} {xs : List V} {k : Int} {v : V} {Q : VK} (h : SqL K H p xs) (a : atI xs k = some v) (q : Q v H) : rIx K (.ref p) (.int k) H Q := .inl (Z.w_ixL h a q)
theorem w_isiL_b {H : Hp} {p : Addr} {xs : List V} {Q : VK} (h : H p = some (.lst xs)) (q : Q (.bl false) H) : rIsi K [.ref p, .ty "bool"] H Q := Z.w_isi (.ty _) (.base (.lst h)) (kit_ty (by decide +kernel)) q
theorem w_isi_sb {H : Hp} {a : Str} {Q : VK} (q : Q (.bl false) H) : rIsi K [.str a, .ty "bool"] H Q := Z.w_isi (.ty _) (.base (.str _)) (kit_ty (by decide +kernel)) q
theorem w_isi_si {H : Hp} {a : Str} {Q : VK} (q : Q (.bl false) H) : rIsi K [.str a, .ty "int"] H Q := Z.w_isi (.ty _) (.base (.str _)) (kit_ty (by decide +kernel)) q
end
end L

local macro_rules | `(tactic| walk_at "w1") => `(tactic| first
  | with_reducible refine L.w_isi_sb ?_
  | with_reducible refine L.w_isi_si ?_
  | fail "w1")

namespace L
open PySem PySem.Spec PyProof.Rows L2 Z M
open _root_.SX (S S_len S_inj)
section
variable {P : Program} {w : World} {K : PySem.W.Frag} {mg : Str → Option Value} {base : Heap}
/-- the same data on both sides, of at most that depth -/
def spAlike (K : PySem.W.Frag) : Nat → Sp
  | 0 => fun _ _ _ _ => False
  | n + 1 => fun vs H Q _ => ∃ (x y : V) (d : PyData), vs = [x, y] ∧ Dp K H x d ∧ Dp K H y d ∧ gdL d = true ∧ d.depth ≤ n ∧ Q (.bl true) H
theorem ok_alike (T : Txt K mg) : ∀ n, FnOk P w K mg base CX0 (n + 1) T.f_alike T.fd_alike ["_law_told", "_law_due_here"] (spAlike K n) := by
  intro n
  induction n with
  | zero => exact T.F_alike.ok sc_alike (fun vs H Q E h => h.elim) (fun cdv A outer s H vs Q E hr h => h.elim)
  | succ n ih =>
    have G_alike := ih
    refine T.F_alike.ok sc_alike (fun vs H Q E h => ?_) (fun cdv A outer s H vs Q E hr h => ?_)
    · obtain ⟨x, y, d, rfl, _⟩ := h
      rfl
    · obtain ⟨x, y, d, rfl, hx, hy, hg, hd, h⟩ := h
      refine ⟨_, (pss_cons (ps_if (pt_cmpR op_isN (pv 1) pe_non (nomark _)) (pss_one (ps_ret (pe_cmpR op_isN (pv 0) pe_non (nomark _)))) pss_nil)
 (pss_cons (ps_if (pt_val (pe_callB call_isi (by rfl) T.m_isinstance (by decide +kernel) (pa_cons (pv 1) (pa_cons (pe_bltn (v := .ty "bool") (by rfl) T.m_bool (by decide +kernel) rfl) pa_nil)))) (pss_one (ps_ret (pe_and (pe_callB call_isi (by rfl) T.m_isinstance (by decide +kernel) (pa_cons (pv 0) (pa_cons (pe_bltn (v := .ty "bool") (by rfl) T.m_bool (by decide +kernel) rfl) pa_nil))) (pe_one (pe_cmpR op_eq (pv 0) (pv 1) (nomark _)))))) pss_nil)
 (pss_cons (ps_if (pt_val (pe_callB call_isi (by rfl) T.m_isinstance (by decide +kernel) (pa_cons (pv 1) (pa_cons (pe_bltn (v := .ty "int") (by rfl) T.m_int (by decide +kernel) rfl) pa_nil)))) (pss_one (ps_ret (pe_and (pe_callB call_isi (by rfl) T.m_isinstance (by decide +kernel) (pa_cons (pv 0) (pa_cons (pe_bltn (v := .ty "int") (by rfl) T.m_int (by decide +kernel) rfl) pa_nil))) (pe_and (pe_not (pe_callB call_isi (by rfl) T.m_isinstance (by decide +kernel) (pa_cons (pv 0) (pa_cons (pe_bltn (v := .ty "bool") (by rfl) T.m_bool (by decide +kernel) rfl) pa_nil)))) (pe_one (pe_cmpR op_eq (pv 0) (pv 1) (nomark _))))))) pss_nil)
 (pss_cons (ps_if (pt_val (pe_callB call_isi (by rfl) T.m_isinstance (by decide +kernel) (pa_cons (pv 1) (pa_cons (pe_bltn (v := .ty "str") (by rfl) T.m_str (by decide +kernel) rfl) pa_nil)))) (pss_one (ps_ret (pe_and (pe_callB call_isi (by rfl) T.m_isinstance (by decide +kernel) (pa_cons (pv 0) (pa_cons (pe_bltn (v := .ty "str") (by rfl) T.m_str (by decide +kernel) rfl) pa_nil))) (pe_one (pe_cmpR op_eq (pv 0) (pv 1) (nomark _)))))) pss_nil)
 (pss_cons (ps_if (PW.pt (pw_and (pt_val (pe_callB call_isi (by rfl) T.m_isinstance (by decide +kernel) (pa_cons (pv 1) (pa_cons (pe_bltn (v := .ty "list") (by rfl) T.m_list (by decide +kernel) rfl) pa_nil)))) (pw_and1 (pt_not (pt_val (pe_callB call_isi (by rfl) T.m_isinstance (by decide +kernel) (pa_cons (pv 0) (pa_cons (pe_bltn (v := .ty "list") (by rfl) T.m_list (by decide +kernel) rfl) pa_nil)))))))) (pss_one (ps_ret pe_bl)) pss_nil)
 (pss_cons (ps_if (PW.pt (pw_and (pt_val (pe_callB call_isi (by rfl) T.m_isinstance (by decide +kernel) (pa_cons (pv 1) (pa_cons (pe_bltn (v := .ty "tuple") (by rfl) T.m_tuple (by decide +kernel) rfl) pa_nil)))) (pw_and1 (pt_not (pt_val (pe_callB call_isi (by rfl) T.m_isinstance (by decide +kernel) (pa_cons (pv 0) (pa_cons (pe_bltn (v := .ty "tuple") (by rfl) T.m_tuple (by decide +kernel) rfl) pa_nil)))))))) (pss_one (ps_ret pe_bl)) pss_nil)
 (pss_cons (ps_if (pt_cmpR op_ne (pe_callB call_len_seq (by rfl) T.m_len (by decide +kernel) (pa_cons (pv 0) pa_nil)) (pe_callB call_len_seq (by rfl) T.m_len (by decide +kernel) (pa_cons (pv 1) pa_nil)) (nomark _)) (pss_one (ps_ret pe_bl)) pss_nil)
 (pss_cons (ps_for PassesOwn.never rfl (pi_range1 (by rfl) T.m_range (pa_cons (pe_callB call_len_seq (by rfl) T.m_len (by decide +kernel) (pa_cons (pv 1) pa_nil)) pa_nil)) (pg_name (i := 2) sc_alike.nd rfl (.inl rfl)) (pss_one (ps_if (pt_not (pt_val (pe_call G_alike (hr.mono (by first | decide | omega)) (by rfl) T.g_alike T.F_alike.kp T.b_alike .nil pass0 (pa_cons (pe_ix ix_seq (pv 0) (pv 2) (fun _ _ => rfl)) (pa_cons (pe_ix ix_seq (pv 1) (pv 2) (fun _ _ => rfl)) pa_nil))))) (pss_one (ps_ret pe_bl)) pss_nil)))
 (pss_one (ps_ret pe_bl)))))))))), ?_⟩
      refine Z.w_start (σ' := [some x, some y, none]) rfl ?_
      cases hx with
      | bl b => cases hg
      | non =>
        cases hy
        walk_at "w"
        exact h
      | int i =>
        cases hy
        walk_at "w"
        have e : decide (V.int i = V.int i) = true := decide_eq_true rfl
        first | (rw [e]; exact h) | (rw [decide_eq_true rfl]; exact h)
      | str i =>
        cases hy
        walk_at "w"
        have e : decide (V.str i = V.str i) = true := decide_eq_true rfl
        first | (rw [e]; exact h) | (rw [decide_eq_true rfl]; exact h)
      | lst _ _ => cases hg
      | @tup a xs ds h1 h2 =>
        cases hy with
        | @tup b ys _ g1 g2 =>
          have e1 := DpAllL.len h2
          have e2 := DpAllL.len g2
          have hg2 : decide (ds.length ≤ 1000) = true ∧ gdLs ds = true := by unfold gdL at hg; exact Bool.and_eq_true_iff.mp hg
          have hgd := hg2.2
          have hlim := of_decide_eq_true hg2.1
          obtain ⟨m, rfl⟩ : ∃ m, n = m + 1 := ⟨n - 1, by unfold PyData.depth at hd; omega⟩
          repeat' (first | walk_at "w1" | refine w_isiT_b g1 ?_ | refine w_isiT_i g1 ?_ | refine w_isiT_s g1 ?_ | refine w_isiT_l g1 ?_ | refine w_isiT_T g1 ?_ | refine w_isiT_b h1 ?_ | refine w_isiT_i h1 ?_ | refine w_isiT_s h1 ?_ | refine w_isiT_l h1 ?_ | refine w_isiT_T h1 ?_)
          refine ⟨by omega, by omega, ?_⟩
          refine for_range (lo := 0) (n := _) (fun i σ' H' => H' = H ∧ ∃ v, σ' = [some (.ref a), some (.ref b), v]) ⟨rfl, _, rfl⟩ ?_ ?_
          · rintro i σ' H' hi ⟨rfl, v, rfl⟩
            rw [Int.toNat_natCast] at hi
            have hid : i < ds.length := by omega
            obtain ⟨u1, q1, q2⟩ := DpAllL.get h2 (List.getElem?_eq_getElem hid)
            obtain ⟨u2, q3, q4⟩ := DpAllL.get g2 (List.getElem?_eq_getElem hid)
            have e0 : (0 : Int) + (i : Int) = (i : Int) := Int.zero_add _
            rw [e0]
            walk_at "w"
            refine w_ixQT h1 (atI_nat q1) ?_
            walk_at "w"
            refine w_ixQT g1 (atI_nat q3) ?_
            walk_at "w"
            refine ⟨u1, u2, ds[i], rfl, q2, q4, gdLs_mem hgd (List.getElem_mem hid), ?_, ?_⟩
            · have k1 := depL_mem (List.getElem_mem hid)
              unfold PyData.depth at hd
              omega
            · walk_at "w"
              exact ⟨_, rfl⟩
          · rintro σ' H' ⟨rfl, v, rfl⟩
            walk_at "w"
            exact h
/-- two lists of the same data -/
def spAlikeL (K : PySem.W.Frag) (n : Nat) : Sp := fun vs H Q _ => ∃ (a b : Addr) (xs ys : List V) (ds : List PyData), vs = [.ref a, .ref b] ∧ H a = some (.lst xs) ∧ H b = some (.lst ys) ∧ DpAll K H xs ds ∧ DpAll K H ys ds ∧ gdLs ds = true ∧ ds.length ≤ 1000 ∧ (∀ d ∈ ds, d.depth ≤ n) ∧ Q (.bl true) H
theorem ok_alikeL (T : Txt K mg) (n : Nat) : FnOk P w K mg base CX0 (n + 3) T.f_alike T.fd_alike ["_law_told", "_law_due_here"] (spAlikeL K n) := by
  have G_alike := ok_alike (P := P) (w := w) (base := base) T (n + 1)
  refine T.F_alike.ok sc_alike (fun vs H Q E h => ?_) (fun cdv A outer s H vs Q E hr h => ?_)
  · obtain ⟨a, b, xs, ys, ds, rfl, _⟩ := h
    rfl
  · obtain ⟨a, b, xs, ys, ds, rfl, ea, eb, h2, g2, hgd, hlim, hdep, h⟩ := h
    have e1 := DpAllL.len h2
    have e2 := DpAllL.len g2
    have h1 : SqL K H a xs := .inl (.inl ea)
    have g1 : SqL K H b ys := .inl (.inl eb)
    refine ⟨_, (pss_cons (ps_if (pt_cmpR op_isN (pv 1) pe_non (nomark _)) (pss_one (ps_ret (pe_cmpR op_isN (pv 0) pe_non (nomark _)))) pss_nil)
 (pss_cons (ps_if (pt_val (pe_callB call_isi (by rfl) T.m_isinstance (by decide +kernel) (pa_cons (pv 1) (pa_cons (pe_bltn (v := .ty "bool") (by rfl) T.m_bool (by decide +kernel) rfl) pa_nil)))) (pss_one (ps_ret (pe_and (pe_callB call_isi (by rfl) T.m_isinstance (by decide +kernel) (pa_cons (pv 0) (pa_cons (pe_bltn (v := .ty "bool") (by rfl) T.m_bool (by decide +kernel) rfl) pa_nil))) (pe_one (pe_cmpR op_eq (pv 0) (pv 1) (nomark _)))))) pss_nil)
 (pss_cons (ps_if (pt_val (pe_callB call_isi (by rfl) T.m_isinstance (by decide +kernel) (pa_cons (pv 1) (pa_cons (pe_bltn (v := .ty "int") (by rfl) T.m_int (by decide +kernel) rfl) pa_nil)))) (pss_one (ps_ret (pe_and (pe_callB call_isi (by rfl) T.m_isinstance (by decide +kernel) (pa_cons (pv 0) (pa_cons (pe_bltn (v := .ty "int") (by rfl) T.m_int (by decide +kernel) rfl) pa_nil))) (pe_and (pe_not (pe_callB call_isi (by rfl) T.m_isinstance (by decide +kernel) (pa_cons (pv 0) (pa_cons (pe_bltn (v := .ty "bool") (by rfl) T.m_bool (by decide +kernel) rfl) pa_nil)))) (pe_one (pe_cmpR op_eq (pv 0) (pv 1) (nomark _))))))) pss_nil)
 (pss_cons (ps_if (pt_val (pe_callB call_isi (by rfl) T.m_isinstance (by decide +kernel) (pa_cons (pv 1) (pa_cons (pe_bltn (v := .ty "str") (by rfl) T.m_str (by decide +kernel) rfl) pa_nil)))) (pss_one (ps_ret (pe_and (pe_callB call_isi (by rfl) T.m_isinstance (by decide +kernel) (pa_cons (pv 0) (pa_cons (pe_bltn (v := .ty "str") (by rfl) T.m_str (by decide +kernel) rfl) pa_nil))) (pe_one (pe_cmpR op_eq (pv 0) (pv 1) (nomark _)))))) pss_nil)
 (pss_cons (ps_if (PW.pt (pw_and (pt_val (pe_callB call_isi (by rfl) T.m_isinstance (by decide +kernel) (pa_cons (pv 1) (pa_cons (pe_bltn (v := .ty "list") (by rfl) T.m_list (by decide +kernel) rfl) pa_nil)))) (pw_and1 (pt_not (pt_val (pe_callB call_isi (by rfl) T.m_isinstance (by decide +kernel) (pa_cons (pv 0) (pa_cons (pe_bltn (v := .ty "list") (by rfl) T.m_list (by decide +kernel) rfl) pa_nil)))))))) (pss_one (ps_ret pe_bl)) pss_nil)
 (pss_cons (ps_if (PW.pt (pw_and (pt_val (pe_callB call_isi (by rfl) T.m_isinstance (by decide +kernel) (pa_cons (pv 1) (pa_cons (pe_bltn (v := .ty "tuple") (by rfl) T.m_tuple (by decide +kernel) rfl) pa_nil)))) (pw_and1 (pt_not (pt_val (pe_callB call_isi (by rfl) T.m_isinstance (by decide +kernel) (pa_cons (pv 0) (pa_cons (pe_bltn (v := .ty "tuple") (by rfl) T.m_tuple (by decide +kernel) rfl) pa_nil)))))))) (pss_one (ps_ret pe_bl)) pss_nil)
 (pss_cons (ps_if (pt_cmpR op_ne (pe_callB call_len_seq (by rfl) T.m_len (by decide +kernel) (pa_cons (pv 0) pa_nil)) (pe_callB call_len_seq (by rfl) T.m_len (by decide +kernel) (pa_cons (pv 1) pa_nil)) (nomark _)) (pss_one (ps_ret pe_bl)) pss_nil)
 (pss_cons (ps_for PassesOwn.never rfl (pi_range1 (by rfl) T.m_range (pa_cons (pe_callB call_len_seq (by rfl) T.m_len (by decide +kernel) (pa_cons (pv 1) pa_nil)) pa_nil)) (pg_name (i := 2) sc_alike.nd rfl (.inl rfl)) (pss_one (ps_if (pt_not (pt_val (pe_call G_alike (hr.mono (by first | decide | omega)) (by rfl) T.g_alike T.F_alike.kp T.b_alike .nil pass0 (pa_cons (pe_ix ix_seq (pv 0) (pv 2) (fun _ _ => rfl)) (pa_cons (pe_ix ix_seq (pv 1) (pv 2) (fun _ _ => rfl)) pa_nil))))) (pss_one (ps_ret pe_bl)) pss_nil)))
 (pss_one (ps_ret pe_bl)))))))))), ?_⟩
    refine Z.w_start (σ' := [some (.ref a), some (.ref b), none]) rfl ?_
    repeat' (first | walk_at "w1" | refine w_isiL_b eb ?_)
    refine ⟨by omega, by omega, ?_⟩
    refine for_range (lo := 0) (n := _) (fun i σ' H' => H' = H ∧ ∃ v, σ' = [some (.ref a), some (.ref b), v]) ⟨rfl, _, rfl⟩ ?_ ?_
    · rintro i σ' H' hi ⟨rfl, v, rfl⟩
      rw [Int.toNat_natCast] at hi
      have hid : i < ds.length := by omega
      obtain ⟨u1, q1, q2⟩ := DpAllL.get h2 (List.getElem?_eq_getElem hid)
      obtain ⟨u2, q3, q4⟩ := DpAllL.get g2 (List.getElem?_eq_getElem hid)
      have e0 : (0 : Int) + (i : Int) = (i : Int) := Int.zero_add _
      rw [e0]
      walk_at "w"
      refine w_ixQL h1 (atI_nat q1) ?_
      walk_at "w"
      refine w_ixQL g1 (atI_nat q3) ?_
      walk_at "w"
      refine ⟨u1, u2, ds[i], rfl, q2, q4, gdLs_mem hgd (List.getElem_mem hid), ?_, ?_⟩
      · have k1 := hdep _ (List.getElem_mem hid)
        omega
      · walk_at "w"
        exact ⟨_, rfl⟩
    · rintro σ' H' ⟨rfl, v, rfl⟩
      walk_at "w"
      exact h
end
end L

namespace L
open PySem PySem.Spec PyProof.Rows L2 Z M
open _root_.SX (S S_len S_inj)
def SortOf (rows : List WRow) (op : List Nat) (val : V) (s : List Nat) : Prop := (op = CALL ∧ ∃ r ∈ rows, val = .str (S r.name) ∧ s = r.res) ∨ (op = WHOLE ∧ s = WHOLE) ∨ (op = RATIO ∧ s = RATIO)
section
variable {P : Program} {w : World} {K : PySem.W.Frag} {mg : Str → Option Value} {base : Heap}
def spSortFor : Sp := fun vs H Q _ => ∃ (wa rl tsa nd pa : Addr) (ra : List Addr) (tl : List Nat) (rows : List WRow) (op : List Nat) (val : V) (s : List Nat), vs = [.ref wa, .ref tsa, .ref nd] ∧ WdAt H wa rl ra tl rows ∧ WOk tl rows ∧ rows.length ≤ 100 ∧ H nd = some (.tup [.str (S op), val, .ref pa]) ∧ SortOf rows op val s ∧ ∀ H', Same H H' → Q (.str (S s)) H'
theorem ok_sortFor (T : Txt K mg) : FnOk P w K mg base CX0 1 T.f_sort_for T.fd_sort_for ["_law_world_here", "_law_sorts", "_law_node"] spSortFor := by
  refine T.F_sort_for.ok sc_sort_for (fun vs H Q E h => ?_) (fun cdv A outer s H vs Q E hr h => ?_)
  · obtain ⟨wa, rl, tsa, nd, pa, ra, tl, rows, op, val, so, rfl, _⟩ := h
    rfl
  · obtain ⟨wa, rl, tsa, nd, pa, ra, tl, rows, op, val, so, rfl, wd, wo, hrl, en, hs, h⟩ := h
    have ew := wd.w
    refine ⟨_, (pss_cons (ps_if (pt_cmpR op_eq (pe_ix ix_tup (pv 2) pe_int (fun _ _ => rfl)) (MT.pe_strS (l := [99, 97, 108, 108]) (by decide +kernel)) (nomark _)) (pss_one (ps_ret (pe_ix ix_list (pe_lc (own := [("_law_row", 3)]) (g := gName 3) (by rfl) sc_sort_for.nd (pi_list (pe_ix ix_list (pv 0) pe_int (fun _ _ => rfl))) (blkOk_by (own := [("_law_row", 3)]) (N := N_sort_for) (sc := defScope s_sort_for) (by decide +kernel)) (fun _ _ _ _ _ => pg_name (i := 3) sc_sort_for.nd rfl (Or.inl rfl)) (fun _ _ _ _ _ => pts_one (pt_cmpR op_eq (pe_ix (show IxR _ (rIxT K) from ix_tup) (pv 3) pe_int (fun _ _ => rfl)) (pe_ix (show IxR _ (rIxT K) from ix_tup) (pv 2) pe_int (fun _ _ => rfl)) (nomark _))) (fun _ _ _ _ _ => (pe_ix (show IxR _ (rIxT K) from ix_tup) (pv 3) pe_int (fun _ _ => rfl)))) pe_int (fun _ _ => rfl)))) pss_nil)
 (pss_cons (ps_if (pt_cmpR op_eq (pe_ix ix_tup (pv 2) pe_int (fun _ _ => rfl)) (MT.pe_strS (l := [105, 102]) (by decide +kernel)) (nomark _)) (pss_one (ps_ret (pe_ix ix_list (pv 1) (pe_ix ix_list (pe_ix ix_tup (pv 2) pe_int (fun _ _ => rfl)) pe_int (fun _ _ => rfl)) (fun _ _ => rfl)))) pss_nil)
 (pss_cons (ps_if (PW.pt (pw_or (pt_cmpR op_eq (pe_ix ix_tup (pv 2) pe_int (fun _ _ => rfl)) (MT.pe_strS (l := [119, 104, 111, 108, 101]) (by decide +kernel)) (nomark _)) (pw_or1 (pt_cmpR op_eq (pe_ix ix_tup (pv 2) pe_int (fun _ _ => rfl)) (MT.pe_strS (l := [115, 104, 105, 102, 116]) (by decide +kernel)) (nomark _))))) (pss_one (ps_ret (MT.pe_strS (l := [119, 104, 111, 108, 101]) (by decide +kernel)))) pss_nil)
 (pss_cons (ps_if (PW.pt (pw_or (pt_cmpR op_eq (pe_ix ix_tup (pv 2) pe_int (fun _ _ => rfl)) (MT.pe_strS (l := [114, 97, 116, 105, 111]) (by decide +kernel)) (nomark _)) (pw_or (pt_cmpR op_eq (pe_ix ix_tup (pv 2) pe_int (fun _ _ => rfl)) (MT.pe_strS (l := [115, 117, 109]) (by decide +kernel)) (nomark _)) (pw_or1 (pt_cmpR op_eq (pe_ix ix_tup (pv 2) pe_int (fun _ _ => rfl)) (MT.pe_strS (l := [115, 99, 97, 108, 101]) (by decide +kernel)) (nomark _)))))) (pss_one (ps_ret (MT.pe_strS (l := [114, 97, 116, 105, 111]) (by decide +kernel)))) pss_nil)
 (pss_one (ps_ret (MT.pe_strS (l := [116, 114, 117, 116, 104]) (by decide +kernel)))))))), ?_⟩
    refine Z.w_start (σ' := [some (.ref wa), some (.ref tsa), some (.ref nd), none]) rfl ?_
    rcases hs with ⟨rfl, r, hr, rfl, rfl⟩ | ⟨rfl, rfl⟩ | ⟨rfl, rfl⟩
    · unfold CALL at en
      walk_at "w"
      refine ⟨⟨_, .inl (.inl wd.r)⟩, fun D hD => ?_⟩
      refine lc_list (xs := ra.map V.ref) (fun i H' => Same H H' ∧ H' D = some (.lst (((rows.take i).filter fun x => decide (x.name = r.name)).map fun x => vS x.res))) ⟨same_of (Same.refl _) hD, by rw [upd_same]; rfl⟩ (fun i H' _ q => .inl (.inl (q.1 _ _ wd.r))) ?_ ?_
      · rintro i x H' hx ⟨sm, eD⟩
        rw [List.getElem?_map] at hx
        obtain ⟨a, ha, rfl⟩ := Option.map_eq_some_iff.mp hx
        have hi : i < rows.length := by rw [← wd.len]; exact (List.getElem?_eq_some_iff.mp ha).1
        have hri : rows[i]? = some rows[i] := List.getElem?_eq_getElem hi
        obtain ⟨b, e1, e2⟩ := (wd.same sm).at_ i a _ ha hri
        have en' := sm _ _ en
        have etake : rows.take (i + 1) = rows.take i ++ [rows[i]] := by rw [List.take_add_one, hri]; rfl
        rw [etake, List.filter_append, List.map_append]
        have hlen : (((rows.take i).filter fun x => decide (x.name = r.name)).map fun x => vS x.res).length ≤ 100 := by
          rw [List.length_map]
          exact Nat.le_trans (List.length_filter_le _ _) (by rw [List.length_take]; omega)
        generalize rows[i] = x at e1 e2 hri
        refine Z.w_gname (σ' := [some (.ref wa), some (.ref tsa), some (.ref nd), some (.ref a)]) rfl ⟨rfl, ?_⟩
        walk_at "w"
        by_cases hx : x.name = r.name
        · rw [if_pos (decide_eq_true hx)]
          walk_at "w"
          refine ⟨_, eD, Nat.lt_of_le_of_lt hlen (by decide), same_mut sm hD, ?_⟩
          rw [upd_same, List.filter_cons, if_pos (decide_eq_true hx), List.filter_nil]
          rfl
        · rw [if_neg (fun z => hx (of_decide_eq_true z))]
          refine ⟨sm, ?_⟩
          rw [List.filter_cons, if_neg (fun z => hx (of_decide_eq_true z)), List.filter_nil, List.map_nil, List.append_nil]
          exact eD
      · rintro H' ⟨sm, eD⟩
        rw [List.length_map, wd.len, List.take_length] at eD
        obtain ⟨r0, rest, er⟩ : ∃ r0 rest, (rows.filter fun x => decide (x.name = r.name)) = r0 :: rest := by
          cases e : (rows.filter fun x => decide (x.name = r.name)) with
          | nil =>
            have : r ∈ rows.filter fun x => decide (x.name = r.name) := List.mem_filter.mpr ⟨hr, decide_eq_true rfl⟩
            rw [e] at this
            cases this
          | cons a b => exact ⟨a, b, rfl⟩
        have h0 : r0 ∈ rows ∧ r0.name = r.name := by
          have := List.mem_filter.mp (show r0 ∈ rows.filter (fun x => decide (x.name = r.name)) by rw [er]; exact List.mem_cons_self)
          exact ⟨this.1, of_decide_eq_true this.2⟩
        have eres : r0.res = r.res := by
          have k1 := lookup_at wo.nd h0.1
          have k2 := lookup_at wo.nd hr
          rw [h0.2, k2] at k1
          have k1 := Option.some.inj k1
          injection k1 with _ k1
          exact (S_inj k1).symm
        rw [er, List.map_cons, eres] at eD
        walk_at "w"
        refine Z.w_ixH eD (atI_nat (j := 0) rfl) ?_
        exact h H' sm
    · walk_at "w"
      exact h H (Same.refl _)
    · walk_at "w"
      exact h H (Same.refl _)
end
end L

namespace L
open PySem PySem.Spec PyProof.Rows L2 Z M
open _root_.SX (S S_len S_inj)
/-! the law's own table -/
structure TA where
  tb : Addr
  tn : Addr
  ts : Addr
  ti : Addr
structure TabAt (P : Program) (w : World) (H : Hp) (x : TA) (us : List Addr) (gs : List GRow) : Prop where
  tb : H x.tb = some (.lst [.ref x.tn, .ref x.ts, .ref x.ti])
  tn : H x.tn = some (.lst (us.map V.ref))
  ts : H x.ts = some (.lst (vS [] :: gs.map fun g => vS g.so))
  len : us.length = gs.length
  ne : x.tb ≠ x.tn ∧ x.tb ≠ x.ts ∧ x.tn ≠ x.ts
  nk : ∀ (i : Nat) (g : GRow) (a : Addr), gs[i]? = some g → us[i]? = some a → ND.nk H g.b.1 (.ref a) ∧ g.b.1.depth ≤ 8
  nums : ∃ kvs, ND.ND P w H x.ti kvs ∧ kvs.length = gs.length ∧ ∀ k, valV kvs k = numOf (gs.map GRow.b) k
theorem TabAt.ch {P : Program} {w : World} {S : List Addr} {H H' : Hp} {x : TA} {us : List Addr} {gs : List GRow} (h : TabAt P w H x us gs) (c : Ch S H H') (m : NoTup S H) (n : ∀ b ∈ S, b ≠ x.tb ∧ b ≠ x.tn ∧ b ≠ x.ts ∧ b ≠ x.ti) : TabAt P w H' x us gs := by
  obtain ⟨kvs, n1, n2, n3⟩ := h.nums
  have tp : ∀ b ys, H b = some (.tup ys) → H' b = some (.tup ys) := fun b ys e => c.tup m e
  exact ⟨c _ _ (fun z => (n _ z).1 rfl) h.tb, c _ _ (fun z => (n _ z).2.1 rfl) h.tn, c _ _ (fun z => (n _ z).2.2.1 rfl) h.ts, h.len, h.ne, fun i g a e1 e2 => ⟨ND.nk_keep tp _ _ (h.nk i g a e1 e2).1, (h.nk i g a e1 e2).2⟩, kvs, n1.keep (fun o e => c _ _ (fun z => (n _ z).2.2.2 rfl) e) tp, n2, n3⟩
theorem TabAt.same {P : Program} {w : World} {H H' : Hp} {x : TA} {us : List Addr} {gs : List GRow} (h : TabAt P w H x us gs) (c : Same H H') : TabAt P w H' x us gs :=
  h.ch (S := []) (Ch.of c) (fun b hb => by cases hb) (fun b hb => by cases hb)
theorem BkAt.ch {P : Program} {w : World} {CB : Addr} {S : List Addr} {H H' : Hp} {o : Addr} {t : BkO} {us : List Addr} {rs : List BRow} (h : BkAt P w CB H o t us rs) (c : Ch S H H') (m : NoTup S H) (n : ∀ b ∈ S, b ≠ o ∧ b ≠ t.ln ∧ b ≠ t.ls ∧ b ≠ t.dn) : BkAt P w CB H' o t us rs := by
  obtain ⟨kvs, n1, n2, n3⟩ := h.nums
  have tp : ∀ b ys, H b = some (.tup ys) → H' b = some (.tup ys) := fun b ys e => c.tup m e
  exact ⟨c _ _ (fun z => (n _ z).1 rfl) h.obj, h.ne, c _ _ (fun z => (n _ z).2.1 rfl) h.ln, c _ _ (fun z => (n _ z).2.2.1 rfl) h.ls, h.len, fun i g a e1 e2 => ⟨ND.nk_keep tp _ _ (h.nk i g a e1 e2).1, (h.nk i g a e1 e2).2⟩, kvs, n1.keep (fun o e => c _ _ (fun z => (n _ z).2.2.2 rfl) e) tp, n2, n3⟩
theorem TabAt.nt {P : Program} {w : World} {H : Hp} {x : TA} {us : List Addr} {gs : List GRow} (h : TabAt P w H x us gs) : NoTup [x.tn, x.ts, x.ti] H := fun b hb ys e => by
  obtain ⟨kvs, n1, _⟩ := h.nums
  rcases List.mem_cons.mp hb with z | hb
  · rw [z, h.tn] at e; cases e
  rcases List.mem_cons.mp hb with z | hb
  · rw [z, h.ts] at e; cases e
  · rw [List.mem_singleton.mp hb] at e; exact n1.not_tup e rfl
theorem BkAt.nt {P : Program} {w : World} {CB : Addr} {H : Hp} {o : Addr} {t : BkO} {us : List Addr} {rs : List BRow} (h : BkAt P w CB H o t us rs) : NoTup [t.ln, t.ls, t.dn] H := fun b hb ys e => by
  obtain ⟨kvs, n1, _⟩ := h.nums
  rcases List.mem_cons.mp hb with z | hb
  · rw [z, h.ln] at e; cases e
  rcases List.mem_cons.mp hb with z | hb
  · rw [z, h.ls] at e; cases e
  · rw [List.mem_singleton.mp hb] at e; exact n1.not_tup e rfl
def putG (gs : List GRow) (g : GRow) : List GRow := if g.b.1 ∈ (gs.map GRow.b).map (·.1) then gs else gs ++ [g]
theorem putG_b (gs : List GRow) (g : GRow) : (putG gs g).map GRow.b = putB (gs.map GRow.b) g.b.1 g.b.2 := by
  unfold putG putB
  by_cases h : g.b.1 ∈ (gs.map GRow.b).map (·.1)
  · rw [if_pos h, if_pos h]
  · rw [if_neg h, if_neg h, List.map_append]
    rfl
section
variable {P : Program} {w : World} {K : PySem.W.Frag} {mg : Str → Option Value} {base : Heap}
def spPut (P : Program) (w : World) : Sp := fun vs H Q _ => ∃ (wa rl : Addr) (ra : List Addr) (tl : List Nat) (rows : List WRow) (x : TA) (us : List Addr) (gs : List GRow) (op : List Nat) (val : V) (kv : NestedKey) (ns : List Int) (pa : Addr) (so : List Nat),
  vs = [.ref wa, .ref x.tb, .str (S op), val, .ref pa] ∧ WdAt H wa rl ra tl rows ∧ WOk tl rows ∧ rows.length ≤ 100 ∧ TabAt P w H x us gs ∧ H pa = some (.tup (ns.map V.int)) ∧ ND.nk H kv val ∧ kv.depth ≤ 6 ∧ SortOf rows op val so ∧ gs.length ≤ 500 ∧
  ∀ H' us' (i : Nat), Ch [x.tn, x.ts, x.ti] H H' → TabAt P w H' x us' (putG gs ⟨op, kv, ns, so⟩) → numOf ((putG gs ⟨op, kv, ns, so⟩).map GRow.b) (nkey op kv ns) = some (.int ((i : Int) + 1)) → Q (.int ((i : Int) + 1)) H'
theorem ok_put (T : Txt K mg) : FnOk P w K mg base CX0 2 T.f_put T.fd_put ["_law_world_here", "_law_table", "_law_op", "_law_value", "_law_parts"] (spPut P w) := by
  have G_sort_for := ok_sortFor (P := P) (w := w) (base := base) T
  refine T.F_put.ok sc_put (fun vs H Q E h => ?_) (fun cdv A outer s H vs Q E hr h => ?_)
  · obtain ⟨wa, rl, ra, tl, rows, x, us, gs, op, val, kv, ns, pa, so, rfl, _⟩ := h
    rfl
  · obtain ⟨wa, rl, ra, tl, rows, x, us, gs, op, val, kv, ns, pa, so, rfl, wd, wo, hrl, tab, ep, hkv, hkd, hso, hgl, h⟩ := h
    have hne : op ≠ [101, 113, 117, 97, 108] := by
      rcases hso with ⟨rfl, _⟩ | ⟨rfl, _⟩ | ⟨rfl, _⟩ <;> decide
    refine ⟨_, (pss_cons (ps_if (pt_cmpR op_eq (pv 2) (MT.pe_strS (l := [101, 113, 117, 97, 108]) (by decide +kernel)) (nomark _)) (pss_one (ps_set (i := 4) sc_put.nd rfl (.inl rfl) (pe_tup (pa_cons (pe_callB (call_min2 rfl) (by rfl) T.m_min (by decide +kernel) (pa_cons (pe_ix ix_tup (pv 4) pe_int (fun _ _ => rfl)) (pa_cons (pe_ix ix_tup (pv 4) pe_int (fun _ _ => rfl)) pa_nil))) (pa_cons (pe_callB (call_max2 rfl) (by rfl) T.m_max (by decide +kernel) (pa_cons (pe_ix ix_tup (pv 4) pe_int (fun _ _ => rfl)) (pa_cons (pe_ix ix_tup (pv 4) pe_int (fun _ _ => rfl)) pa_nil))) pa_nil))))) pss_nil)
 (pss_cons (ps_set (i := 5) sc_put.nd rfl (.inl rfl) (pe_tup (pa_cons (pv 2) (pa_cons (pv 3) (pa_cons (pv 4) pa_nil)))))
 (pss_cons (ps_set (i := 6) sc_put.nd rfl (.inl rfl) (pe_ix ix_list (pv 1) pe_int (fun _ _ => rfl)))
 (pss_cons (ps_if (pt_cmp (ND.pc_ndnotin (ND.hu9_of hr) (pv 5) (pv 6))) (pss_cons (ps_expr (pe_bm PySem.F.plainAttrs_list PySem.F.slot_list_append PySem.F.type_list_append mt_append (pe_ix ix_list (pv 1) pe_int (fun _ _ => rfl)) (pa_cons (pe_call G_sort_for (hr.mono (by first | decide | omega)) (by rfl) T.g_sort_for T.F_sort_for.kp T.b_sort_for .nil pass0 (pa_cons (pv 0) (pa_cons (pe_ix ix_list (pv 1) pe_int (fun _ _ => rfl)) (pa_cons (pv 5) pa_nil)))) pa_nil)))
 (pss_cons (ps_expr (pe_bm PySem.F.plainAttrs_list PySem.F.slot_list_append PySem.F.type_list_append mt_append (pe_ix ix_list (pv 1) pe_int (fun _ _ => rfl)) (pa_cons (pv 5) pa_nil)))
 (pss_one (ND.ps_ndput (ND.hu9_of hr) (pv 6) (pv 5) (pe_callB call_len_seq (by rfl) T.m_len (by decide +kernel) (pa_cons (pe_ix ix_list (pv 1) pe_int (fun _ _ => rfl)) pa_nil)) rfl)))) pss_nil)
 (pss_one (ps_ret (ND.pe_ndget (ND.hu9_of hr) (pv 6) (pv 5) (fun _ _ => rfl)))))))), ?_⟩
    refine Z.w_start (σ' := [some (.ref wa), some (.ref x.tb), some (.str (S op)), some val, some (.ref pa), none, none]) rfl ?_
    walk_at "w"
    rename_i nd hnd
    have s1 : Same H (upd H nd (.tup [.str (S op), val, .ref pa])) := same_of (Same.refl _) hnd
    have end1 : upd H nd (.tup [.str (S op), val, .ref pa]) nd = some (.tup [.str (S op), val, .ref pa]) := upd_same
    generalize upd H nd (.tup [.str (S op), val, .ref pa]) = H1 at s1 end1 ⊢
    have tab1 := tab.same s1
    have etb := tab1.tb
    have hk1 : ND.nk H1 (nkey op kv ns) (.ref nd) := nk_node end1 (ND.nk_keep (fun b ys e => s1 _ _ e) _ _ hkv) (s1 _ _ ep)
    have hd := dep_node (op := op) (ns := ns) hkd
    obtain ⟨kvs, hn1, hn2, hn3⟩ := tab1.nums
    walk_at "w"
    by_cases hin : nkey op kv ns ∈ (gs.map GRow.b).map (·.1)
    · obtain ⟨i, e1, e2, r, e3, e4⟩ := numOf_some hin
      have epb : putG gs ⟨op, kv, ns, so⟩ = gs := if_pos hin
      refine ⟨x.ti, nd, kvs, _, true, rfl, rfl, hn1, hk1, hd, by rw [hn3, e2]; rfl, ?_⟩
      walk_at "w"
      refine ⟨x.ti, nd, kvs, _, _, rfl, rfl, hn1, hk1, hd, (hn3 _).trans e2, ?_⟩
      exact h _ us i (Ch.of s1) (by rw [epb]; exact tab1) (by rw [epb]; exact e2)
    · refine ⟨x.ti, nd, kvs, _, false, rfl, rfl, hn1, hk1, hd, by rw [hn3, numOf_none hin]; rfl, ?_⟩
      walk_at "w"
      have hul : us.length ≤ 500 := by rw [tab.len]; exact hgl
      refine Z.w_bm ?_
      walk_at "w"
      refine Z.w_tyL tab1.ts ?_
      walk_at "w"
      refine ⟨wa, rl, x.ts, nd, pa, ra, tl, rows, op, val, so, rfl, wd.same s1, wo, hrl, end1, hso, fun H2 s2 => ?_⟩
      have s12 : Same H H2 := s1.trans s2
      have tab2 := tab1.same s2
      have hk2 := ND.nk_keep (fun b ys e => s2 _ _ e) _ _ hk1
      have end2 := s2 _ _ end1
      obtain ⟨kvs2, hm1, hm2, hm3⟩ := tab2.nums
      walk_at "w"
      refine Z.w_app tab2.ts (by rw [List.length_cons, List.length_map]; omega) ?_
      have n1 : x.ts ≠ x.ti := nd_ne hm1 tab2.ts
      have n2 : x.tn ≠ x.ti := nd_ne hm1 tab2.tn
      have n3 : x.tb ≠ x.ti := nd_ne hm1 tab2.tb
      have f1 : upd H2 x.ts (.lst (vS [] :: (gs.map fun g => vS g.so) ++ [vS so])) x.tb = some (.lst [.ref x.tn, .ref x.ts, .ref x.ti]) := by rw [upd_ne tab.ne.2.1]; exact tab2.tb
      have f2 : upd H2 x.ts (.lst (vS [] :: (gs.map fun g => vS g.so) ++ [vS so])) x.tn = some (.lst (us.map V.ref)) := by rw [upd_ne tab.ne.2.2]; exact tab2.tn
      have f3 : upd H2 x.ts (.lst (vS [] :: (gs.map fun g => vS g.so) ++ [vS so])) x.ts = some (.lst (vS [] :: (gs.map fun g => vS g.so) ++ [vS so])) := upd_same
      have f4 : ∀ b ys, H2 b = some (.tup ys) → upd H2 x.ts (.lst (vS [] :: (gs.map fun g => vS g.so) ++ [vS so])) b = some (.tup ys) := fun b ys e => by
        rw [upd_ne (fun z => by rw [z, tab2.ts] at e; cases e)]
        exact e
      have f5 : ∀ u, H2 x.ti = some u → upd H2 x.ts (.lst (vS [] :: (gs.map fun g => vS g.so) ++ [vS so])) x.ti = some u := fun u e => by rw [upd_ne n1.symm]; exact e
      have f6 : Ch [x.tn, x.ts, x.ti] H (upd H2 x.ts (.lst (vS [] :: (gs.map fun g => vS g.so) ++ [vS so]))) := (Ch.of s12).put (by simp)
      generalize upd H2 x.ts (.lst (vS [] :: (gs.map fun g => vS g.so) ++ [vS so])) = H3 at f1 f2 f3 f4 f5 f6 ⊢
      walk_at "w"
      refine Z.w_bm ?_
      walk_at "w"
      refine Z.w_tyL f2 ?_
      walk_at "w"
      refine Z.w_app f2 (by rw [List.length_map]; omega) ?_
      have g1 : upd H3 x.tn (.lst (us.map V.ref ++ [.ref nd])) x.tb = some (.lst [.ref x.tn, .ref x.ts, .ref x.ti]) := by rw [upd_ne tab.ne.1]; exact f1
      have g2 : upd H3 x.tn (.lst (us.map V.ref ++ [.ref nd])) x.tn = some (.lst (us.map V.ref ++ [.ref nd])) := upd_same
      have g3 : upd H3 x.tn (.lst (us.map V.ref ++ [.ref nd])) x.ts = some (.lst (vS [] :: (gs.map fun g => vS g.so) ++ [vS so])) := by rw [upd_ne tab.ne.2.2.symm]; exact f3
      have g4 : ∀ b ys, H3 b = some (.tup ys) → upd H3 x.tn (.lst (us.map V.ref ++ [.ref nd])) b = some (.tup ys) := fun b ys e => by
        rw [upd_ne (fun z => by rw [z, f2] at e; cases e)]
        exact e
      have g5 : ∀ u, H3 x.ti = some u → upd H3 x.tn (.lst (us.map V.ref ++ [.ref nd])) x.ti = some u := fun u e => by rw [upd_ne n2.symm]; exact e
      have g6 : Ch [x.tn, x.ts, x.ti] H (upd H3 x.tn (.lst (us.map V.ref ++ [.ref nd]))) := f6.put (by simp)
      generalize upd H3 x.tn (.lst (us.map V.ref ++ [.ref nd])) = H4 at g1 g2 g3 g4 g5 g6 ⊢
      have t4 : ∀ b ys, H2 b = some (.tup ys) → H4 b = some (.tup ys) := fun b ys e => g4 _ _ (f4 _ _ e)
      have hn4 : ND.ND P w H4 x.ti kvs2 := hm1.keep (fun o e => g5 _ (f5 _ e)) t4
      have hk4 := ND.nk_keep t4 _ _ hk2
      walk_at "w"
      have hkl : kvs2.length < sizeLine := Nat.lt_of_le_of_lt (by rw [hm2]; exact hgl : kvs2.length ≤ 500) (by decide)
      refine ⟨x.ti, nd, kvs2, _, rfl, rfl, hn4, hk4, hd, hkl, fun o2 hn5 => ?_⟩
      have k4 : ∀ b ys, H4 b = some (.tup ys) → upd H4 x.ti o2 b = some (.tup ys) := fun b ys e => by
        rw [upd_ne (hn4.not_tup e)]
        exact e
      have hk5 := ND.nk_keep k4 _ _ hk4
      have k1 : upd H4 x.ti o2 x.tb = some (.lst [.ref x.tn, .ref x.ts, .ref x.ti]) := by rw [upd_ne n3]; exact g1
      have k2 : upd H4 x.ti o2 x.tn = some (.lst (us.map V.ref ++ [.ref nd])) := by rw [upd_ne n2]; exact g2
      have k3 : upd H4 x.ti o2 x.ts = some (.lst (vS [] :: (gs.map fun g => vS g.so) ++ [vS so])) := by rw [upd_ne n1]; exact g3
      have k6 : Ch [x.tn, x.ts, x.ti] H (upd H4 x.ti o2) := g6.put (by simp)
      generalize upd H4 x.ti o2 = H5 at hn5 k4 hk5 k1 k2 k3 k6 ⊢
      have eln : (us.map V.ref ++ [V.ref nd]).length = gs.length + 1 := by rw [List.length_append, List.length_map, tab.len]; rfl
      rw [eln] at hn5
      walk_at "w"
      refine ⟨x.ti, nd, _, _, _, rfl, rfl, hn5, hk5, hd, by rw [valV_put, if_pos rfl], ?_⟩
      have epb : putG gs ⟨op, kv, ns, so⟩ = gs ++ [⟨op, kv, ns, so⟩] := if_neg hin
      have emap : (gs ++ [(⟨op, kv, ns, so⟩ : GRow)]).map GRow.b = gs.map GRow.b ++ [(nkey op kv ns, S so)] := by rw [List.map_append]; rfl
      refine h H5 (us ++ [nd]) gs.length k6 ?_ ?_
      · rw [epb]
        refine ⟨k1, by rw [List.map_append]; exact k2, by rw [List.map_append]; exact k3, by rw [List.length_append, List.length_append, tab.len]; rfl, tab.ne, fun i r a e1 e2 => ?_, _, hn5, ?_, fun k => ?_⟩
        · by_cases hi : i < gs.length
          · rw [List.getElem?_append_left hi] at e1
            rw [List.getElem?_append_left (by rw [tab.len]; exact hi)] at e2
            obtain ⟨q1, q2⟩ := tab2.nk i r a e1 e2
            exact ⟨ND.nk_keep k4 _ _ (ND.nk_keep t4 _ _ q1), q2⟩
          · have hl := (List.getElem?_eq_some_iff.mp e1).1
            rw [List.length_append, List.length_singleton] at hl
            obtain rfl : i = gs.length := by omega
            rw [List.getElem?_append_right (Nat.le_refl _), Nat.sub_self] at e1
            rw [← tab.len, List.getElem?_append_right (Nat.le_refl _), Nat.sub_self] at e2
            obtain rfl := Option.some.inj e1
            obtain rfl := Option.some.inj e2
            exact ⟨hk5, hd⟩
        · rw [putK_new _ ((hm3 _).trans (numOf_none hin)), List.length_append, hm2, List.length_append]
          rfl
        · rw [valV_put, emap, numOf_snoc hin, hm3, List.length_map]
          rfl
      · rw [epb, emap, numOf_snoc hin, if_pos rfl, List.length_map]
end
end L

namespace L
open PySem PySem.Spec PyProof.Rows L2 Z M
open _root_.SX (S S_len S_inj)
/-! a key as data -/
mutual
def kD : NestedKey → PyData
  | .none => .none
  | .num i => .int i
  | .text x => .str x
  | .tup ks => .tuple (kDs ks)
def kDs : List NestedKey → List PyData
  | [] => []
  | k :: ks => kD k :: kDs ks
end
mutual
theorem nk_dp {K : PySem.W.Frag} {H : Hp} : ∀ (k : NestedKey) (v : V), ND.nk H k v → Dp K H v (kD k)
  | .none, v, q => by unfold ND.nk at q; subst q; unfold kD; exact .non
  | .num i, v, q => by unfold ND.nk at q; subst q; unfold kD; exact .int _
  | .text x, v, q => by unfold ND.nk at q; subst q; unfold kD; exact .str _
  | .tup ks, v, q => by
    unfold ND.nk at q
    obtain ⟨b, xs, rfl, e, q⟩ := q
    unfold kD
    exact .tup (.inl (.inl e)) (nks_dp ks xs q)
theorem nks_dp {K : PySem.W.Frag} {H : Hp} : ∀ (ks : List NestedKey) (xs : List V), ND.nks H ks xs → DpAll K H xs (kDs ks)
  | [], xs, q => by unfold ND.nks at q; subst q; unfold kDs; exact .nil
  | k :: ks, xs, q => by
    unfold ND.nks at q
    obtain ⟨v, vs, rfl, q1, q2⟩ := q
    unfold kDs
    exact .cons (nk_dp k v q1) (nks_dp ks vs q2)
end
mutual
theorem kD_dep : ∀ k : NestedKey, (kD k).depth ≤ k.depth
  | .none => by simp [kD, PyData.depth]
  | .num i => by simp [kD, PyData.depth]
  | .text x => by simp [kD, PyData.depth]
  | .tup ks => by
    have := kDs_dep ks
    simp only [kD, PyData.depth, NestedKey.depth]
    omega
theorem kDs_dep : ∀ ks : List NestedKey, PyData.depthAll (kDs ks) ≤ NestedKey.depthAll ks
  | [] => by simp [kDs, PyData.depthAll]
  | k :: ks => by
    have h1 := kD_dep k
    have h2 := kDs_dep ks
    simp only [kDs, PyData.depthAll, NestedKey.depthAll]
    omega
end
/-! the bank and the table side by side -/
structure LX where
  wa : Addr
  rl : Addr
  tg : SgO
  o : Addr
  t : BkO
  x : TA
def LX.s (X : LX) : List Addr := [X.t.ln, X.t.ls, X.t.dn, X.x.tn, X.x.ts, X.x.ti]
structure LAt (P : Program) (w : World) (CB CS : Addr) (H : Hp) (X : LX) (ra : List Addr) (tl : List Nat) (rows : List WRow) (us vs : List Addr) (gs : List GRow) : Prop where
  wd : WdAt H X.wa X.rl ra tl rows
  wo : WOk tl rows
  rl : rows.length ≤ 100
  sg : SigAt CS H X.t.sg X.tg [S tl] (rows.map WRow.fn)
  bk : BkAt P w CB H X.o X.t us (gs.map GRow.b)
  tab : TabAt P w H X.x vs gs
  wty : Wty (rows.map WRow.fn) gs
  nsl : ∀ g ∈ gs, g.ns.length ≤ 50
  kvg : ∀ g ∈ gs, gdL (kD g.kv) = true
  dj : ∀ b ∈ [X.t.ln, X.t.ls, X.t.dn], b ≠ X.x.tb ∧ b ≠ X.x.tn ∧ b ≠ X.x.ts ∧ b ≠ X.x.ti
  dw : ∀ b ∈ X.s, b ≠ X.wa ∧ b ≠ X.rl
  ds : ∀ b ∈ X.s, b ≠ X.t.sg ∧ b ≠ X.tg.ds ∧ b ≠ X.tg.df
  do_ : ∀ b ∈ [X.x.tn, X.x.ts, X.x.ti], b ≠ X.o
def Fit (rows : List WRow) (gs : List GRow) (op : List Nat) (val : V) (kv : NestedKey) (ns : List Int) (so : List Nat) : Prop :=
  (op = CALL ∧ ∃ r ∈ rows, val = .str (S r.name) ∧ kv = .text (S r.name) ∧ so = r.res ∧ ns.length = r.args.length ∧ ∀ (j : Nat) (n : Int) (a : List Nat), ns[j]? = some n → r.args[j]? = some a → ∃ (i : Nat) (g : GRow), n = (i : Int) + 1 ∧ gs[i]? = some g ∧ g.so = a) ∨
  (op = WHOLE ∧ so = WHOLE ∧ ns = []) ∨ (op = RATIO ∧ so = RATIO ∧ ns = [])
theorem putG_get {gs : List GRow} {g : GRow} {i : Nat} {r : GRow} (h : gs[i]? = some r) : (putG gs g)[i]? = some r := by
  unfold putG
  by_cases q : g.b.1 ∈ (gs.map GRow.b).map (·.1)
  · rw [if_pos q]; exact h
  · rw [if_neg q, List.getElem?_append_left (List.getElem?_eq_some_iff.mp h).1]; exact h
theorem putG_cases {gs : List GRow} {g : GRow} {i : Nat} {r : GRow} (h : (putG gs g)[i]? = some r) : gs[i]? = some r ∨ r = g := by
  unfold putG at h
  by_cases q : g.b.1 ∈ (gs.map GRow.b).map (·.1)
  · rw [if_pos q] at h; exact .inl h
  · rw [if_neg q] at h
    by_cases hi : i < gs.length
    · rw [List.getElem?_append_left hi] at h; exact .inl h
    · have hl := (List.getElem?_eq_some_iff.mp h).1
      rw [List.length_append, List.length_singleton] at hl
      obtain rfl : i = gs.length := by omega
      rw [List.getElem?_append_right (Nat.le_refl _), Nat.sub_self] at h
      exact .inr (Option.some.inj h).symm
theorem putG_len (gs : List GRow) (g : GRow) : (putG gs g).length ≤ gs.length + 1 := by
  unfold putG
  by_cases q : g.b.1 ∈ (gs.map GRow.b).map (·.1)
  · rw [if_pos q]; omega
  · rw [if_neg q, List.length_append]; exact Nat.le_refl _
theorem arg_lay {tl : List Nat} (ht : nameB tl = true) {a : List Nat} (h : a ∈ sort3 tl) : PyData.canLay0 (.str (S a)) = true := by
  unfold sort3 at h
  rcases List.mem_cons.mp h with e | h
  · subst e
    refine lay_of fun c hc => ?_
    unfold nameB at ht
    simp only [Bool.and_eq_true] at ht
    exact of_decide_eq_true (List.all_eq_true.mp ht.1.1.2 c hc)
  · have : ∀ a ∈ [WHOLE, RATIO], ∀ c ∈ a, c < 128 := by decide
    exact lay_of (this a h)
theorem Fit.mk {tl : List Nat} {rows : List WRow} (wo : WOk tl rows) {gs : List GRow} {op : List Nat} {val : V} {kv : NestedKey} {ns : List Int} {so : List Nat} (h : Fit rows gs op val kv ns so) : MkOk (rows.map WRow.fn) (gs.map GRow.b) op val ns so := by
  rcases h with ⟨rfl, r, hr, rfl, rfl, rfl, hl, hs⟩ | ⟨rfl, rfl, rfl⟩ | ⟨rfl, rfl, rfl⟩
  · refine .inl ⟨rfl, r.name, r.args, rfl, lookup_at wo.nd hr, fun l hl => arg_lay wo.tn ((wo.ar r hr).2 l hl), hl, fun j n a h1 h2 => ?_⟩
    obtain ⟨i, g, e1, e2, e3⟩ := hs j n a h1 h2
    exact ⟨i, g.b, e1, by rw [List.getElem?_map, e2]; rfl, by rw [← e3]; rfl⟩
  · exact .inr ⟨by decide, rfl⟩
  · exact .inr ⟨by decide, rfl⟩
theorem Fit.so {rows : List WRow} {gs : List GRow} {op : List Nat} {val : V} {kv : NestedKey} {ns : List Int} {so : List Nat} (h : Fit rows gs op val kv ns so) : SortOf rows op val so := by
  rcases h with ⟨rfl, r, hr, rfl, _, rfl, _⟩ | ⟨rfl, rfl, _⟩ | ⟨rfl, rfl, _⟩
  · exact .inl ⟨rfl, r, hr, rfl, rfl⟩
  · exact .inr (.inl ⟨rfl, rfl⟩)
  · exact .inr (.inr ⟨rfl, rfl⟩)
theorem Fit.wty {tl : List Nat} {rows : List WRow} (wo : WOk tl rows) {gs : List GRow} {op : List Nat} {val : V} {kv : NestedKey} {ns : List Int} {so : List Nat} (hw : Wty (rows.map WRow.fn) gs) (h : Fit rows gs op val kv ns so) : Wty (rows.map WRow.fn) (putG gs ⟨op, kv, ns, so⟩) := by
  intro i g hg hop
  rcases putG_cases hg with e | rfl
  · obtain ⟨f, as, a1, a2, a3, a4⟩ := hw i g e hop
    refine ⟨f, as, a1, a2, a3, fun j n a h1 h2 => ?_⟩
    obtain ⟨i', g', b1, b2, b3⟩ := a4 j n a h1 h2
    exact ⟨i', g', b1, putG_get b2, b3⟩
  · rcases h with ⟨rfl, r, hr, rfl, rfl, rfl, hl, hs⟩ | ⟨rfl, _⟩ | ⟨rfl, _⟩
    · refine ⟨r.name, r.args, rfl, lookup_at wo.nd hr, hl, fun j n a h1 h2 => ?_⟩
      obtain ⟨i', g', b1, b2, b3⟩ := hs j n a h1 h2
      exact ⟨i', g', b1, putG_get b2, b3⟩
    · exact absurd (show WHOLE = CALL from hop) (by decide)
    · exact absurd (show RATIO = CALL from hop) (by decide)
section
variable {P : Program} {w : World} {K : PySem.W.Frag} {mg : Str → Option Value} {base : Heap}
theorem LAt.nt {CB CS : Addr} {H : Hp} {X : LX} {ra : List Addr} {tl : List Nat} {rows : List WRow} {us vs : List Addr} {gs : List GRow} (h : LAt P w CB CS H X ra tl rows us vs gs) : NoTup X.s H := fun b hb ys e => by
  have h1 := h.bk.nt
  have h2 := h.tab.nt
  unfold LX.s at hb
  rcases List.mem_cons.mp hb with z | hb
  · exact h1 b (by rw [z]; simp) ys e
  rcases List.mem_cons.mp hb with z | hb
  · exact h1 b (by rw [z]; simp) ys e
  rcases List.mem_cons.mp hb with z | hb
  · exact h1 b (by rw [z]; simp) ys e
  · exact h2 b hb ys e
/-- what is not of the two may change -/
theorem LAt.ch {CB CS : Addr} {S : List Addr} {H H' : Hp} {X : LX} {ra : List Addr} {tl : List Nat} {rows : List WRow} {us vs : List Addr} {gs : List GRow} (h : LAt P w CB CS H X ra tl rows us vs gs) (c : Ch S H H') (m : NoTup S H)
    (n : ∀ b ∈ S, b ≠ X.wa ∧ b ≠ X.rl ∧ b ≠ X.t.sg ∧ b ≠ X.tg.ds ∧ b ≠ X.tg.df ∧ b ≠ X.o ∧ b ≠ X.x.tb ∧ b ∉ X.s) : LAt P w CB CS H' X ra tl rows us vs gs := by
  have ns : ∀ b ∈ S, ∀ z ∈ X.s, b ≠ z := fun b hb z hz e => (n b hb).2.2.2.2.2.2.2 (e ▸ hz)
  refine ⟨h.wd.ch c m fun b hb => ⟨(n b hb).1, (n b hb).2.1⟩, h.wo, h.rl, h.sg.ch c m fun b hb => ⟨(n b hb).2.2.1, (n b hb).2.2.2.1, (n b hb).2.2.2.2.1⟩, h.bk.ch c m fun b hb => ⟨(n b hb).2.2.2.2.2.1, ns b hb _ (by simp [LX.s]), ns b hb _ (by simp [LX.s]), ns b hb _ (by simp [LX.s])⟩,
    h.tab.ch c m fun b hb => ⟨(n b hb).2.2.2.2.2.2.1, ns b hb _ (by simp [LX.s]), ns b hb _ (by simp [LX.s]), ns b hb _ (by simp [LX.s])⟩, h.wty, h.nsl, h.kvg, h.dj, h.dw, h.ds, h.do_⟩
theorem LAt.same {CB CS : Addr} {H H' : Hp} {X : LX} {ra : List Addr} {tl : List Nat} {rows : List WRow} {us vs : List Addr} {gs : List GRow} (h : LAt P w CB CS H X ra tl rows us vs gs) (c : Same H H') : LAt P w CB CS H' X ra tl rows us vs gs :=
  h.ch (S := []) (Ch.of c) (fun b hb => by cases hb) (fun b hb => by cases hb)
def spMakeL (P : Program) (w : World) (CB CS : Addr) : Sp := fun vs H Q _ => ∃ (X : LX) (ra : List Addr) (tl : List Nat) (rows : List WRow) (us ws : List Addr) (gs : List GRow) (rw_ : Addr) (op : List Nat) (val : V) (kv : NestedKey) (ns : List Int) (pa : Addr) (so : List Nat),
  vs = [.ref X.wa, .ref X.x.tb, .ref X.o, .ref rw_] ∧ LAt P w CB CS H X ra tl rows us ws gs ∧ H rw_ = some (.tup [.str (S op), val, .ref pa]) ∧ H pa = some (.tup (ns.map V.int)) ∧ ns.length ≤ 50 ∧ ND.nk H kv val ∧ kv.depth ≤ 6 ∧ gdL (kD kv) = true ∧ Fit rows gs op val kv ns so ∧ gs.length ≤ 400 ∧
  ∀ H' us' ws' (i : Nat), Ch X.s H H' → LAt P w CB CS H' X ra tl rows us' ws' (putG gs ⟨op, kv, ns, so⟩) → Q (.int ((i : Int) + 1)) H'
theorem ok_makeL (T : Txt K mg) (W : Tw K mg T w) : FnOk P w K mg base CX0 5 T.f_make T.fd_make ["_law_world_here", "_law_table", "_law_bank", "_law_row"] (spMakeL P w T.C_Bank T.C_Signature) := by
  have G_put := ok_put (P := P) (w := w) (base := base) T
  have G_Bank_make := ok_make (P := P) (base := base) T W
  have G_alike := ok_alike (P := P) (w := w) (base := base) T 1
  refine T.F_make.ok sc_make (fun vs H Q E h => ?_) (fun cdv A outer s H vs Q E hr h => ?_)
  · obtain ⟨X, ra, tl, rows, us, ws, gs, rw_, op, val, kv, ns, pa, so, rfl, _⟩ := h
    rfl
  · obtain ⟨X, ra, tl, rows, us, ws, gs, rw_, op, val, kv, ns, pa, so, rfl, la, erw, epa, hnl, hkv, hkd, hkg, hfit, hgl, h⟩ := h
    refine ⟨_, (pss_cons (ps_set (i := 4) sc_make.nd rfl (.inl rfl) (pe_call G_put (hr.mono (by first | decide | omega)) (by rfl) T.g_put T.F_put.kp T.b_put .nil pass0 (pa_cons (pv 0) (pa_cons (pv 1) (pa_cons (pe_ix ix_tup (pv 3) pe_int (fun _ _ => rfl)) (pa_cons (pe_ix ix_tup (pv 3) pe_int (fun _ _ => rfl)) (pa_cons (pe_ix ix_tup (pv 3) pe_int (fun _ _ => rfl)) pa_nil)))))))
 (pss_cons (ps_if (pt_not (pt_val (pe_call G_alike (hr.mono (by first | decide | omega)) (by rfl) T.g_alike T.F_alike.kp T.b_alike .nil pass0 (pa_cons (pe_meth (pv 2) T.cl_Bank T.M_Bank_make G_Bank_make (hr.mono (by first | decide | omega)) T.b_Bank_make .nil pass0 (pa_cons (pe_ix ix_tup (pv 3) pe_int (fun _ _ => rfl)) (pa_cons (pe_ix ix_tup (pv 3) pe_int (fun _ _ => rfl)) (pa_cons (pe_ix ix_tup (pv 3) pe_int (fun _ _ => rfl)) pa_nil)))) (pa_cons (pv 4) pa_nil))))) (pss_one (ps_ret pe_int)) pss_nil)
 (pss_one (ps_ret (pv 4))))), ?_⟩
    refine Z.w_start (σ' := [some (.ref X.wa), some (.ref X.x.tb), some (.ref X.o), some (.ref rw_), none]) rfl ?_
    walk_at "w"
    refine ⟨X.wa, X.rl, ra, tl, rows, X.x, ws, gs, op, val, kv, ns, pa, so, rfl, la.wd, la.wo, la.rl, la.tab, epa, hkv, hkd, hfit.so, by omega, fun H1 ws1 i c1 tab1 enum => ?_⟩
    have nt1 := la.tab.nt
    have erw1 := c1.tup nt1 erw
    have epa1 := c1.tup nt1 epa
    have hkv1 := ND.nk_keep (fun b ys e => c1.tup nt1 e) _ _ hkv
    have sub1 : ∀ b ∈ [X.x.tn, X.x.ts, X.x.ti], b ∈ X.s := fun b hb => by
      unfold LX.s
      simp only [List.mem_cons, List.not_mem_nil, or_false] at hb ⊢
      rcases hb with e | e | e <;> simp [e]
    have bk1 := la.bk.ch c1 nt1 fun b hb => ⟨la.do_ b hb, fun e => by
      have := la.dj X.t.ln (by simp)
      simp only [List.mem_cons, List.not_mem_nil, or_false] at hb
      rcases hb with z | z | z
      · exact this.2.1 (e.symm.trans z)
      · exact this.2.2.1 (e.symm.trans z)
      · exact this.2.2.2 (e.symm.trans z), fun e => by
      have := la.dj X.t.ls (by simp)
      simp only [List.mem_cons, List.not_mem_nil, or_false] at hb
      rcases hb with z | z | z
      · exact this.2.1 (e.symm.trans z)
      · exact this.2.2.1 (e.symm.trans z)
      · exact this.2.2.2 (e.symm.trans z), fun e => by
      have := la.dj X.t.dn (by simp)
      simp only [List.mem_cons, List.not_mem_nil, or_false] at hb
      rcases hb with z | z | z
      · exact this.2.1 (e.symm.trans z)
      · exact this.2.2.1 (e.symm.trans z)
      · exact this.2.2.2 (e.symm.trans z)⟩
    have sg1 := la.sg.ch c1 nt1 fun b hb => la.ds b (sub1 b hb)
    have wd1 := la.wd.ch c1 nt1 fun b hb => la.dw b (sub1 b hb)
    walk_at "w"
    refine w_meth0 bk1.obj rfl (by rfl) ?_
    walk_at "w"
    refine ⟨X.o, X.t, us, _, X.tg, _, _, op, val, kv, ns, pa, so, rfl, bk1, sg1, epa1, hnl, by rw [List.length_map]; omega, hkv1, hkd, hfit.mk la.wo, fun H2 us2 i2 c2 bk2 enum2 => ?_⟩
    have nt2 := bk1.nt
    have sub2 : ∀ b ∈ [X.t.ln, X.t.ls, X.t.dn], b ∈ X.s := fun b hb => by
      unfold LX.s
      simp only [List.mem_cons, List.not_mem_nil, or_false] at hb ⊢
      rcases hb with e | e | e <;> simp [e]
    have tab2 := tab1.ch c2 nt2 la.dj
    have sg2 := sg1.ch c2 nt2 fun b hb => la.ds b (sub2 b hb)
    have wd2 := wd1.ch c2 nt2 fun b hb => la.dw b (sub2 b hb)
    have epB := putG_b gs ⟨op, kv, ns, so⟩
    have bk2' : BkAt P w T.C_Bank H2 X.o X.t us2 ((putG gs ⟨op, kv, ns, so⟩).map GRow.b) := by rw [epB]; exact bk2
    have ei : i2 = i := by
      have q : numOf ((putG gs ⟨op, kv, ns, so⟩).map GRow.b) (nkey op kv ns) = some (.int ((i2 : Int) + 1)) := by rw [epB]; exact enum2
      rw [enum] at q
      have q := Option.some.inj q
      injection q with q
      omega
    subst ei
    have cc : Ch X.s H H2 := (c1.sup sub1).trans (c2.sup sub2)
    walk_at "w"
    refine ⟨_, _, .int ((i2 : Int) + 1), rfl, .int _, .int _, rfl, Nat.zero_le _, ?_⟩
    walk_at "w"
    refine h H2 us2 ws1 i2 cc ⟨wd2, la.wo, la.rl, sg2, bk2', tab2, hfit.wty la.wo la.wty, fun g hg => ?_, fun g hg => ?_, la.dj, la.dw, la.ds, la.do_⟩
    · obtain ⟨j, hj⟩ := List.mem_iff_getElem?.mp hg
      rcases putG_cases hj with e | rfl
      · exact la.nsl g (List.mem_of_getElem? e)
      · exact hnl
    · obtain ⟨j, hj⟩ := List.mem_iff_getElem?.mp hg
      rcases putG_cases hj with e | rfl
      · exact la.kvg g (List.mem_of_getElem? e)
      · exact hkg
end
end L

namespace L
open PySem PySem.Spec PyProof.Rows L2 Z M
open _root_.SX (S S_len S_inj)
theorem hu65 {A : Around} {k : Nat} (hr : Room k A) : A.units + 65 < cLine := by
  have := hr.un
  omega
/-! the pairs that are noted -/
def noteZ (gs : List GRow) (zs : List (Int × Int)) (a b : Int) : List (Int × Int) := if a < b ∧ isNum gs a = true ∧ (a, b) ∉ zs then zs ++ [(a, b)] else zs
def pD (z : Int × Int) : PyData := .tuple [.int z.1, .int z.2]
theorem pD_lay (z : Int × Int) : (pD z).canLay0 = true := by simp [pD, PyData.canLay0, PyData.canLayAll0]
theorem pD_depth (z : Int × Int) : (pD z).depth = 1 := by simp [pD, PyData.depth, PyData.depthAll]
theorem pDs_lay : ∀ zs : List (Int × Int), PyData.canLayAll0 (zs.map pD) = true
  | [] => by simp [PyData.canLayAll0]
  | z :: zs => by simp [PyData.canLayAll0, pD_lay z, pDs_lay zs]
theorem pDs_depth : ∀ zs : List (Int × Int), PyData.depthAll (zs.map pD) ≤ 1
  | [] => by simp [PyData.depthAll]
  | z :: zs => by
    have h1 := pDs_depth zs
    have h2 := pD_depth z
    simp only [List.map_cons, PyData.depthAll]
    omega
theorem pD_shaped (z : Int × Int) : SeqAt.shaped (pD z) = true := by
  have h := pD_depth z
  show ((pD z).canLay0 && decide ((pD z).depth ≤ 64)) = true
  rw [Bool.and_eq_true]
  exact ⟨pD_lay z, decide_eq_true (by omega)⟩
theorem pDs_shaped (zs : List (Int × Int)) : SeqAt.shaped (.list (zs.map pD)) = true := by
  have h1 := pDs_depth zs
  have h2 : PyData.depth (.list (zs.map pD)) ≤ 64 := by
    simp only [PyData.depth]
    omega
  show (PyData.canLay0 (.list (zs.map pD)) && decide (PyData.depth (.list (zs.map pD)) ≤ 64)) = true
  rw [Bool.and_eq_true]
  exact ⟨by simp only [PyData.canLay0]; exact pDs_lay zs, decide_eq_true h2⟩
theorem pD_eqv (z y : Int × Int) : PyData.eqv (pD z) (pD y) = decide (z = y) := by
  obtain ⟨a, b⟩ := z
  obtain ⟨a', b'⟩ := y
  have e : PyData.eqv (pD (a, b)) (pD (a', b')) = ((a == a') && ((b == b') && true)) := by simp only [pD, PyData.eqv, PyData.eqvAll]
  rw [e, Bool.and_true]
  by_cases h : ((a, b) : Int × Int) = (a', b')
  · cases h
    simp
  · rw [decide_eq_false h]
    by_cases h1 : a = a'
    · have h2 : (b == b') = false := beq_eq_false_iff_ne.mpr fun z => h (by rw [h1, z])
      rw [h2, Bool.and_false]
    · rw [beq_eq_false_iff_ne.mpr h1, Bool.false_and]
theorem pD_any (zs : List (Int × Int)) (y : Int × Int) : ((zs.map pD).any fun z => PyData.eqv z (pD y)) = decide (y ∈ zs) := by
  rw [Bool.eq_iff_iff, List.any_eq_true, decide_eq_true_eq]
  constructor
  · rintro ⟨d, hd, e⟩
    obtain ⟨z, hz, rfl⟩ := List.mem_map.mp hd
    rw [pD_eqv, decide_eq_true_eq] at e
    rw [← e]; exact hz
  · exact fun h => ⟨pD y, List.mem_map.mpr ⟨y, h, rfl⟩, by rw [pD_eqv, decide_eq_true_eq]⟩
theorem dp_pair {K : PySem.W.Frag} {H : Hp} {t : Addr} {z : Int × Int} (h : H t = some (.tup [.int z.1, .int z.2])) : Dp K H (.ref t) (pD z) := .tup (.inl (.inl h)) (.cons (.int _) (.cons (.int _) .nil))
theorem PairsV.dp {K : PySem.W.Frag} {H : Hp} : ∀ {ys : List V} {zs : List (Int × Int)}, PairsV H ys zs → DpAll K H ys (zs.map pD)
  | [], [], _ => .nil
  | [], _ :: _, h => absurd h.1 (by simp)
  | _ :: _, [], h => absurd h.1 (by simp)
  | y :: ys, z :: zs, h => by
    obtain ⟨t, rfl, e⟩ := h.2 0 y z rfl rfl
    refine .cons (dp_pair e) (PairsV.dp ⟨Nat.succ.inj h.1, fun i y' z' e1 e2 => h.2 (i + 1) y' z' e1 e2⟩)
section
variable {P : Program} {w : World} {K : PySem.W.Frag} {mg : Str → Option Value} {base : Heap}
def spNote (P : Program) (w : World) : Sp := fun vs H Q _ => ∃ (x : TA) (us : List Addr) (gs : List GRow) (pl : Addr) (ys : List V) (zs : List (Int × Int)) (a b : Int), vs = [.ref x.tb, .ref pl, .int a, .int b] ∧ TabAt P w H x us gs ∧ H pl = some (.lst ys) ∧ PairsV H ys zs ∧ ys.length < 90000 ∧ (∃ (i : Nat) (g : GRow), a = (i : Int) + 1 ∧ gs[i]? = some g) ∧
  ∀ H' ys', Ch [pl] H H' → H' pl = some (.lst ys') → PairsV H' ys' (noteZ gs zs a b) → Q .non H'
theorem ok_note (T : Txt K mg) : FnOk P w K mg base CX0 1 T.f_note T.fd_note ["_law_table", "_law_pairs", "_law_a", "_law_b"] (spNote P w) := by
  refine T.F_note.ok sc_note (fun vs H Q E h => ?_) (fun cdv A outer s H vs Q E hr h => ?_)
  · obtain ⟨x, us, gs, pl, ys, zs, a, b, rfl, _⟩ := h
    rfl
  · obtain ⟨x, us, gs, pl, ys, zs, a, b, rfl, tab, epl, hpv, hyl, ⟨i, g, rfl, hi⟩, h⟩ := h
    have etb := tab.tb
    have ets := tab.ts
    refine ⟨_, (pss_one (ps_if (PW.pt (pw_and (pt_cmpR op_lt (pv 2) (pv 3) (nomark _)) (pw_and (pt_cmpR op_in_seq (pe_ix ix_list (pe_ix ix_list (pv 0) pe_int (fun _ _ => rfl)) (pv 2) (fun _ _ => rfl)) (pe_tup (pa_cons (MT.pe_strS (l := [119, 104, 111, 108, 101]) (by decide +kernel)) (pa_cons (MT.pe_strS (l := [114, 97, 116, 105, 111]) (by decide +kernel)) pa_nil))) rfl) (pw_and1 (pt_cmpR (op_notInD (hu65 hr)) (pe_tup (pa_cons (pv 2) (pa_cons (pv 3) pa_nil))) (pv 1) rfl))))) (pss_one (ps_expr (pe_bm PySem.F.plainAttrs_list PySem.F.slot_list_append PySem.F.type_list_append mt_append (pv 1) (pa_cons (pe_tup (pa_cons (pv 2) (pa_cons (pv 3) pa_nil))) pa_nil)))) pss_nil)), ?_⟩
    refine Z.w_start (σ' := [some (.ref x.tb), some (.ref pl), some (.int ((i : Int) + 1)), some (.int b)]) rfl ?_
    walk_at "w"
    by_cases h1 : (i : Int) + 1 < b
    · rw [if_pos (decide_eq_true h1)]
      walk_at "w"
      refine Z.w_ixH ets (atI_nat (j := i + 1) (v := vS g.so) (by rw [List.getElem?_cons_succ, List.getElem?_map, hi]; rfl)) ?_
      walk_at "w"
      rename_i q hq
      have s1 : Same H (upd H q (.tup [vS WHOLE, vS RATIO])) := same_of (Same.refl _) hq
      have eq1 : upd H q (.tup [vS WHOLE, vS RATIO]) q = some (.tup (w_NUMBER_SORTS.map fun l => V.str (S l))) := upd_same
      generalize upd H q (.tup [vS WHOLE, vS RATIO]) = H1 at s1 eq1 ⊢
      refine w_inS (.inl (.inl eq1)) ?_
      have en : isNum gs ((i : Int) + 1) = decide (g.so ∈ w_NUMBER_SORTS) := by unfold isNum; rw [rowN_nat, hi]
      walk_at "w"
      by_cases h2 : g.so ∈ w_NUMBER_SORTS
      · rw [if_pos (decide_eq_true h2)]
        rw [decide_eq_true h2] at en
        walk_at "w"
        rename_i t ht
        have s2 : Same H (upd H1 t (.tup [.int ((i : Int) + 1), .int b])) := s1.trans (same_of (Same.refl _) ht)
        have et : upd H1 t (.tup [.int ((i : Int) + 1), .int b]) t = some (.tup [.int ((i : Int) + 1), .int b]) := upd_same
        generalize upd H1 t (.tup [.int ((i : Int) + 1), .int b]) = H2 at s2 et ⊢
        have hpv2 := hpv.same s2
        refine ⟨pD ((i : Int) + 1, b), zs.map pD, dp_pair (z := ((i : Int) + 1, b)) et, .lst (.inl (.inl (s2 _ _ epl))) hpv2.dp, pD_shaped _, pDs_shaped _, ?_⟩
        rw [pD_any]
        walk_at "w"
        by_cases h3 : ((i : Int) + 1, b) ∈ zs
        · rw [decide_eq_true h3, if_neg (by decide)]
          walk_at "w"
          refine h _ ys (Ch.of s2) (s2 _ _ epl) ?_
          unfold noteZ
          rw [if_neg fun z => z.2.2 h3]
          exact hpv2
        · rw [decide_eq_false h3, if_pos (by decide)]
          walk_at "w"
          refine Z.w_bm ?_
          walk_at "w"
          refine Z.w_tyL (s2 _ _ epl) ?_
          walk_at "w"
          rename_i t2 ht2
          have s3 : Same H (upd H2 t2 (.tup [.int ((i : Int) + 1), .int b])) := s2.trans (same_of (Same.refl _) ht2)
          have et2 : upd H2 t2 (.tup [.int ((i : Int) + 1), .int b]) t2 = some (.tup [.int ((i : Int) + 1), .int b]) := upd_same
          generalize upd H2 t2 (.tup [.int ((i : Int) + 1), .int b]) = H3 at s3 et2 ⊢
          refine Z.w_app (s3 _ _ epl) (by omega) ?_
          walk_at "w"
          have nt : ∀ c zs', H3 c = some (.tup zs') → c ≠ pl := fun c zs' e z => by rw [z, s3 _ _ epl] at e; cases e
          refine h _ (ys ++ [.ref t2]) ((Ch.of s3).put (by simp)) upd_same ?_
          unfold noteZ
          rw [if_pos ⟨h1, en, h3⟩]
          refine PairsV.snoc ((hpv.same s3).ch (S := [pl]) ((Ch.refl _ _).put (by simp)) (fun c hc zs' e => ?_)) (by rw [upd_ne (nt _ _ et2)]; exact et2)
          rw [List.mem_singleton.mp hc, s3 _ _ epl] at e
          cases e
      · rw [if_neg (fun z => h2 (of_decide_eq_true z))]
        rw [decide_eq_false h2] at en
        walk_at "w"
        refine h _ ys (Ch.of s1) (s1 _ _ epl) ?_
        unfold noteZ
        rw [if_neg fun z => by rw [en] at z; cases z.2.1]
        exact hpv.same s1
    · rw [if_neg (fun z => h1 (of_decide_eq_true z))]
      walk_at "w"
      refine h _ ys (Ch.refl _ _) epl ?_
      unfold noteZ
      rw [if_neg fun z => h1 z.1]
      exact hpv
end
end L

namespace L
open PySem PySem.Spec PyProof.Rows L2 Z M
open _root_.SX (S S_len S_inj)
/-! what is due of a list of numbers -/
def noteL (gs : List GRow) (zs L : List (Int × Int)) : List (Int × Int) := L.foldl (fun z p => noteZ gs z p.1 p.2) zs
theorem noteL_app {gs : List GRow} {zs L M : List (Int × Int)} : noteL gs zs (L ++ M) = noteL gs (noteL gs zs L) M := by unfold noteL; rw [List.foldl_append]
theorem mem_noteZ {gs : List GRow} {zs : List (Int × Int)} {a b : Int} {q : Int × Int} : q ∈ noteZ gs zs a b ↔ q ∈ zs ∨ (q = (a, b) ∧ q.1 < q.2 ∧ isNum gs q.1 = true) := by
  unfold noteZ
  by_cases h : a < b ∧ isNum gs a = true ∧ (a, b) ∉ zs
  · rw [if_pos h, List.mem_append, List.mem_singleton]
    constructor
    · rintro (g | rfl)
      · exact .inl g
      · exact .inr ⟨rfl, h.1, h.2.1⟩
    · rintro (g | ⟨rfl, _⟩)
      · exact .inl g
      · exact .inr rfl
  · rw [if_neg h]
    constructor
    · exact .inl
    · rintro (g | ⟨rfl, h1, h2⟩)
      · exact g
      · by_cases h3 : (a, b) ∈ zs
        · exact h3
        · exact absurd ⟨h1, h2, h3⟩ h
theorem mem_noteL {gs : List GRow} {q : Int × Int} : ∀ {L zs : List (Int × Int)}, q ∈ noteL gs zs L ↔ q ∈ zs ∨ (q ∈ L ∧ q.1 < q.2 ∧ isNum gs q.1 = true)
  | [], zs => by
    unfold noteL
    simp
  | p :: L, zs => by
    show q ∈ noteL gs (noteZ gs zs p.1 p.2) L ↔ _
    rw [mem_noteL, mem_noteZ, List.mem_cons]
    constructor
    · rintro ((h | ⟨h1, h2⟩) | ⟨h1, h2⟩)
      · exact .inl h
      · exact .inr ⟨.inl h1, h2⟩
      · exact .inr ⟨.inr h1, h2⟩
    · rintro (h | ⟨h1 | h1, h2⟩)
      · exact .inl (.inl h)
      · exact .inl (.inr ⟨h1, h2⟩)
      · exact .inr ⟨h1, h2⟩
theorem noteZ_nd {gs : List GRow} {zs : List (Int × Int)} {a b : Int} (h : zs.Nodup) : (noteZ gs zs a b).Nodup := by
  unfold noteZ
  by_cases g : a < b ∧ isNum gs a = true ∧ (a, b) ∉ zs
  · rw [if_pos g, List.nodup_append]
    refine ⟨h, by simp, fun x hx y hy e => ?_⟩
    rw [List.mem_singleton.mp hy] at e
    exact g.2.2 (e ▸ hx)
  · rw [if_neg g]; exact h
theorem noteZ_len (gs : List GRow) (zs : List (Int × Int)) (a b : Int) : (noteZ gs zs a b).length ≤ zs.length + 1 := by
  unfold noteZ
  by_cases g : a < b ∧ isNum gs a = true ∧ (a, b) ∉ zs
  · rw [if_pos g, List.length_append]; exact Nat.le_refl _
  · rw [if_neg g]; omega
theorem noteL_nd {gs : List GRow} : ∀ {L zs : List (Int × Int)}, zs.Nodup → (noteL gs zs L).Nodup
  | [], _, h => h
  | _ :: L, _, h => noteL_nd (L := L) (noteZ_nd h)
theorem noteL_len (gs : List GRow) : ∀ (L zs : List (Int × Int)), (noteL gs zs L).length ≤ zs.length + L.length
  | [], zs => Nat.le_refl _
  | p :: L, zs => by
    have h1 := noteL_len gs L (noteZ gs zs p.1 p.2)
    have h2 := noteZ_len gs zs p.1 p.2
    show (noteL gs (noteZ gs zs p.1 p.2) L).length ≤ _
    rw [List.length_cons]
    omega
def dueL (gs : List GRow) (u v : Int) : List (Int × Int) := if u ≠ v ∧ callN gs u ≠ none ∧ callN gs u = callN gs v then (argsN gs u).zip (argsN gs v) ++ [(u, v)] else []
theorem dueL_len {gs : List GRow} (hns : ∀ g ∈ gs, g.ns.length ≤ 50) (u v : Int) : (dueL gs u v).length ≤ 51 := by
  unfold dueL
  by_cases h : u ≠ v ∧ callN gs u ≠ none ∧ callN gs u = callN gs v
  · rw [if_pos h, List.length_append, List.length_zip]
    have : (argsN gs u).length ≤ 50 := by
      unfold argsN
      cases e : rowN gs u with
      | none => exact Nat.zero_le _
      | some g =>
        unfold rowN at e
        by_cases h1 : 1 ≤ u
        · rw [if_pos h1] at e
          exact hns g (List.mem_of_getElem? e)
        · rw [if_neg h1] at e; cases e
    show min _ _ + 1 ≤ 51
    omega
  · rw [if_neg h]; exact Nat.zero_le _
theorem mem_dueL {gs : List GRow} {u v : Int} {q : Int × Int} (n : u ≠ v) : (q ∈ dueL gs u v ∧ q.1 < q.2 ∧ isNum gs q.1 = true) ↔ Meets gs q.1 q.2 u v := by
  unfold Meets dueL
  constructor
  · rintro ⟨h1, h2, h3⟩
    by_cases g : u ≠ v ∧ callN gs u ≠ none ∧ callN gs u = callN gs v
    · rw [if_pos g, List.mem_append, List.mem_singleton] at h1
      refine ⟨?_, h2, h3, ?_⟩
      · obtain ⟨k, hk⟩ := Option.ne_none_iff_exists'.mp g.2.1
        exact ⟨k, hk, g.2.2 ▸ hk⟩
      · rcases h1 with h1 | h1
        · exact .inr (zip_get.mp h1)
        · rw [h1]; exact .inl ⟨rfl, rfl⟩
    · rw [if_neg g] at h1; cases h1
  · rintro ⟨⟨k, hu, hv⟩, h2, h3, h4⟩
    refine ⟨?_, h2, h3⟩
    have hc : u ≠ v ∧ callN gs u ≠ none ∧ callN gs u = callN gs v := ⟨n, (fun z => by rw [hu] at z; cases z), hu.trans hv.symm⟩
    rw [if_pos hc, List.mem_append, List.mem_singleton]
    rcases h4 with ⟨e1, e2⟩ | h4
    · exact .inr (by rw [← e1, ← e2])
    · exact .inl (zip_get.mpr h4)
def dueA (gs : List GRow) (given us : List Int) : List (Int × Int) := us.flatMap fun u => given.flatMap (dueL gs u)
theorem dueL_self {gs : List GRow} (u : Int) : dueL gs u u = [] := by
  unfold dueL
  rw [if_neg fun z => z.1 rfl]
theorem mem_dueA {gs : List GRow} {given : List Int} {q : Int × Int} : q ∈ noteL gs [] (dueA gs given given) ↔ ∃ u v : Int, u ∈ given ∧ v ∈ given ∧ u ≠ v ∧ Meets gs q.1 q.2 u v := by
  rw [mem_noteL]
  unfold dueA
  constructor
  · rintro (h | ⟨h1, h2⟩)
    · cases h
    · obtain ⟨u, hu, h1⟩ := List.mem_flatMap.mp h1
      obtain ⟨v, hv, h1⟩ := List.mem_flatMap.mp h1
      have n : u ≠ v := fun z => by rw [z, dueL_self] at h1; cases h1
      exact ⟨u, v, hu, hv, n, (mem_dueL n).mp ⟨h1, h2⟩⟩
  · rintro ⟨u, v, hu, hv, n, h⟩
    have := (mem_dueL n).mpr h
    exact .inr ⟨List.mem_flatMap.mpr ⟨u, hu, List.mem_flatMap.mpr ⟨v, hv, this.1⟩⟩, this.2⟩
/-! sorting pairs of the heap -/
def kOf (H : Hp) : V → Int × Int := fun v => match v with
  | .ref t => (match H t with
    | some (.tup [.int x, .int y]) => (x, y)
    | _ => (0, 0))
  | _ => (0, 0)
theorem kOf_at {H : Hp} {t : Addr} {x y : Int} (h : H t = some (.tup [.int x, .int y])) : kOf H (.ref t) = (x, y) := by
  show (match H t with
    | some (.tup [.int x, .int y]) => (x, y)
    | _ => (0, 0)) = _
  rw [h]
theorem PairsV.at_ {H : Hp} {ys : List V} {zs : List (Int × Int)} (h : PairsV H ys zs) {y : V} (hy : y ∈ ys) : ∃ t, y = .ref t ∧ H t = some (.tup [.int (kOf H y).1, .int (kOf H y).2]) := by
  obtain ⟨i, hi⟩ := List.mem_iff_getElem?.mp hy
  have hl := (List.getElem?_eq_some_iff.mp hi).1
  have hl2 : i < zs.length := by rw [← h.1]; exact hl
  obtain ⟨t, rfl, e⟩ := h.2 i y _ hi (List.getElem?_eq_getElem hl2)
  generalize zs[i] = z at e
  refine ⟨t, rfl, ?_⟩
  rw [kOf_at e]
  exact e
theorem PairsV.map {H : Hp} {ys : List V} {zs : List (Int × Int)} (h : PairsV H ys zs) : ys.map (kOf H) = zs := by
  refine List.ext_getElem? fun i => ?_
  rw [List.getElem?_map]
  cases e : ys[i]? with
  | none =>
    rw [List.getElem?_eq_none_iff, h.1] at e
    exact (List.getElem?_eq_none e).symm
  | some y =>
    have hl := (List.getElem?_eq_some_iff.mp e).1
    have hl2 : i < zs.length := by rw [← h.1]; exact hl
    have hz : zs[i]? = some zs[i] := List.getElem?_eq_getElem hl2
    obtain ⟨t, rfl, e2⟩ := h.2 i y _ e hz
    show some (kOf H (.ref t)) = _
    rw [kOf_at e2, hz]
theorem w_sortZ {K : PySem.W.Frag} {H : Hp} {a : Addr} {ys : List V} {zs : List (Int × Int)} {Q : VK} (ha : H a = some (.lst ys)) (h : PairsV H ys zs) (hn : zs.Nodup)
    (q : ∀ p ys' zs' H', Same H H' → H p = none → H' p = some (.lst ys') → PairsV H' ys' zs' → zs'.Nodup → zs'.Pairwise SDT.lexI → (∀ x, x ∈ zs' ↔ x ∈ zs) → Q (.ref p) H') : rSortedPO K [.ref a] H Q := by
  refine ⟨a, ys, kOf H, rfl, .inl (.inl ha), fun x hx => h.at_ hx, fun ys' p hs hst hp => ?_⟩
  have hpm : (ys'.map (kOf H)).Perm zs := by
    have := hst.perm.map (kOf H)
    rwa [h.map] at this
  have sm : Same H (upd H p (.lst ys')) := same_of (Same.refl _) hp
  refine q p ys' (ys'.map (kOf H)) _ sm hp upd_same ⟨by rw [List.length_map], fun i y z e1 e2 => ?_⟩ (hpm.nodup_iff.mpr hn) ?_ fun x => hpm.mem_iff
  · rw [List.getElem?_map, e1] at e2
    obtain rfl := Option.some.inj e2
    obtain ⟨t, rfl, e3⟩ := h.at_ (hst.perm.mem_iff.mp (List.mem_of_getElem? e1))
    exact ⟨t, rfl, sm _ _ e3⟩
  · refine List.pairwise_map.mpr (hs.imp fun {x y} g => SDT.lex_tot _ _ ?_)
    intro z
    rw [show SrtO.lexB (kOf H y) (kOf H x) = false from g] at z
    cases z
theorem TabAt.row {P : Program} {w : World} {H : Hp} {x : TA} {us : List Addr} {gs : List GRow} (h : TabAt P w H x us gs) {i : Nat} {g : GRow} (e : gs[i]? = some g) : ∃ (a : Addr) (val : V) (pa : Addr), us[i]? = some a ∧ H a = some (.tup [.str (S g.op), val, .ref pa]) ∧ ND.nk H g.kv val ∧ H pa = some (.tup (g.ns.map V.int)) := by
  have hi : i < us.length := by rw [h.len]; exact (List.getElem?_eq_some_iff.mp e).1
  obtain ⟨val, pa, e1, e2, e3⟩ := nk_inv (h.nk i g _ e (List.getElem?_eq_getElem hi)).1
  exact ⟨us[i], val, pa, List.getElem?_eq_getElem hi, e1, e2, e3⟩
theorem at_pred {xs : List V} {j : Nat} {v : V} (h : xs[j]? = some v) : atI xs ((j : Int) + 1 - 1) = some v := by
  rw [show (j : Int) + 1 - 1 = (j : Int) by omega]
  exact atI_nat h
section
variable {P : Program} {w : World} {K : PySem.W.Frag} {mg : Str → Option Value} {base : Heap}
def spDue (P : Program) (w : World) : Sp := fun vs H Q _ => ∃ (x : TA) (us : List Addr) (gs : List GRow) (fs : List FnRow) (na : Addr) (given : List Int), vs = [.ref x.tb, .ref na] ∧ TabAt P w H x us gs ∧ Wty fs gs ∧ H na = some (.lst (given.map V.int)) ∧ given.length ≤ 40 ∧
  (∀ x ∈ given, ∃ (i : Nat) (g : GRow), x = (i : Int) + 1 ∧ gs[i]? = some g) ∧ (∀ g ∈ gs, g.ns.length ≤ 50) ∧
  ∀ p ys zs H', Same H H' → H' p = some (.lst ys) → H p = none → PairsV H' ys zs → zs.Nodup → zs.Pairwise SDT.lexI → (∀ q : Int × Int, q ∈ zs ↔ ∃ u v : Int, u ∈ given ∧ v ∈ given ∧ u ≠ v ∧ Meets gs q.1 q.2 u v) → Q (.ref p) H'
theorem ok_due (T : Txt K mg) : FnOk P w K mg base CX0 2 T.f_due T.fd_due ["_law_table", "_law_given"] (spDue P w) := by
  have G_note := ok_note (P := P) (w := w) (base := base) T
  refine T.F_due.ok sc_due (fun vs H Q E h => ?_) (fun cdv A outer s H vs Q E hr h => ?_)
  · obtain ⟨x, us, gs, fs, na, given, rfl, _⟩ := h
    rfl
  · obtain ⟨x, us, gs, fs, na, given, rfl, tab, hw, hna, hg40, hgv, hns, h⟩ := h
    refine ⟨_, (pss_cons (ps_set (i := 2) sc_due.nd rfl (.inl rfl) (pe_lst pa_nil))
 (pss_cons (ps_for PassesOwn.never rfl (pi_list (pv 1)) (pg_name (i := 3) sc_due.nd rfl (.inl rfl)) (pss_one (ps_for PassesOwn.never rfl (pi_list (pv 1)) (pg_name (i := 4) sc_due.nd rfl (.inl rfl)) (pss_cons (ps_set (i := 5) sc_due.nd rfl (.inl rfl) (pe_ix ix_list (pe_ix ix_list (pv 0) pe_int (fun _ _ => rfl)) (pe_op op_sub (pv 3) pe_int) (fun _ _ => rfl)))
 (pss_cons (ps_set (i := 6) sc_due.nd rfl (.inl rfl) (pe_ix ix_list (pe_ix ix_list (pv 0) pe_int (fun _ _ => rfl)) (pe_op op_sub (pv 4) pe_int) (fun _ _ => rfl)))
 (pss_one (ps_if (PW.pt (pw_and (pt_cmpR op_ne (pv 3) (pv 4) (nomark _)) (pw_and (pt_cmpR op_eq (pe_ix ix_tup (pv 5) pe_int (fun _ _ => rfl)) (MT.pe_strS (l := [99, 97, 108, 108]) (by decide +kernel)) (nomark _)) (pw_and (pt_cmpR op_eq (pe_ix ix_tup (pv 6) pe_int (fun _ _ => rfl)) (MT.pe_strS (l := [99, 97, 108, 108]) (by decide +kernel)) (nomark _)) (pw_and1 (pt_cmpR op_eq (pe_ix ix_tup (pv 5) pe_int (fun _ _ => rfl)) (pe_ix ix_tup (pv 6) pe_int (fun _ _ => rfl)) (nomark _))))))) (pss_cons (ps_for PassesOwn.never rfl (pi_range1 (by rfl) T.m_range (pa_cons (pe_callB call_len_seq (by rfl) T.m_len (by decide +kernel) (pa_cons (pe_ix ix_tup (pv 5) pe_int (fun _ _ => rfl)) pa_nil)) pa_nil)) (pg_name (i := 7) sc_due.nd rfl (.inl rfl)) (pss_one (ps_expr (pe_call G_note (hr.mono (by first | decide | omega)) (by rfl) T.g_note T.F_note.kp T.b_note .nil pass0 (pa_cons (pv 0) (pa_cons (pv 2) (pa_cons (pe_ix ix_tup (pe_ix ix_tup (pv 5) pe_int (fun _ _ => rfl)) (pv 7) (fun _ _ => rfl)) (pa_cons (pe_ix ix_tup (pe_ix ix_tup (pv 6) pe_int (fun _ _ => rfl)) (pv 7) (fun _ _ => rfl)) pa_nil))))))))
 (pss_one (ps_expr (pe_call G_note (hr.mono (by first | decide | omega)) (by rfl) T.g_note T.F_note.kp T.b_note .nil pass0 (pa_cons (pv 0) (pa_cons (pv 2) (pa_cons (pv 3) (pa_cons (pv 4) pa_nil)))))))) pss_nil)))))))
 (pss_one (ps_ret (pe_callB cr_sortedPO (by rfl) T.m_sorted (by decide +kernel) (pa_cons (pv 2) pa_nil)))))), ?_⟩
    refine Z.w_start (σ' := [some (.ref x.tb), some (.ref na), none, none, none, none, none, none]) rfl ?_
    walk_at "w"
    rename_i pl hpl
    have s0 : Same H (upd H pl (.lst [])) := same_of (Same.refl _) hpl
    have ep0 : upd H pl (.lst []) pl = some (.lst []) := upd_same
    generalize upd H pl (.lst []) = H0 at s0 ep0 ⊢
    have up : ∀ {H1 H2 : Hp}, Same H H1 → Ch [pl] H1 H2 → Same H H2 := fun {H1 H2} a b c y e => b c y (fun z => by rw [List.mem_singleton.mp z, hpl] at e; cases e) (a c y e)
    refine for_list (xs := given.map V.int) (fun i σ' H' => ∃ a3 a4 a5 a6 a7 ys, σ' = [some (.ref x.tb), some (.ref na), some (.ref pl), a3, a4, a5, a6, a7] ∧ Same H H' ∧ H' pl = some (.lst ys) ∧ PairsV H' ys (noteL gs [] (dueA gs given (given.take i))))
      ⟨none, none, none, none, none, [], rfl, s0, ep0, rfl, fun i y z e _ => by simp at e⟩ (fun i σ' H' _ ⟨_, _, _, _, _, _, _, s, _⟩ => .inl (.inl (s _ _ hna))) ?_ ?_
    · rintro i y σ' H' hx ⟨a3, a4, a5, a6, a7, ys, rfl, sm, epl, hpv⟩
      rw [List.getElem?_map] at hx
      obtain ⟨u, hu, rfl⟩ := Option.map_eq_some_iff.mp hx
      have hi40 : i < 40 := by have := (List.getElem?_eq_some_iff.mp hu).1; omega
      have hA : (dueA gs given (given.take i)).length ≤ i * 2040 := Nat.le_trans (fm_len (b := 2040) fun u' _ => Nat.le_trans (fm_len (b := 51) fun v' _ => dueL_len hns u' v') (by omega)) (Nat.mul_le_mul_right _ (by rw [List.length_take]; omega))
      have eA : dueA gs given (given.take (i + 1)) = dueA gs given (given.take i) ++ given.flatMap (dueL gs u) := takeFM (f := fun u => given.flatMap (dueL gs u)) hu
      rw [eA]
      generalize dueA gs given (given.take i) = LA at hpv hA ⊢
      obtain ⟨n0, g, rfl, eg⟩ := hgv u (List.mem_of_getElem? hu)
      have ena := sm _ _ hna
      walk_at "w"
      refine for_list (xs := given.map V.int) (fun j σ' H' => ∃ a4 a5 a6 a7 ys, σ' = [some (.ref x.tb), some (.ref na), some (.ref pl), some (.int ((n0 : Int) + 1)), a4, a5, a6, a7] ∧ Same H H' ∧ H' pl = some (.lst ys) ∧ PairsV H' ys (noteL gs [] (LA ++ (given.take j).flatMap (dueL gs ((n0 : Int) + 1)))))
        ⟨a4, a5, a6, a7, ys, rfl, sm, epl, by rw [List.take_zero, List.flatMap_nil, List.append_nil]; exact hpv⟩ (fun i σ' H' _ ⟨_, _, _, _, _, _, s, _⟩ => .inl (.inl (s _ _ hna))) ?_ ?_
      · rintro j y σ' H2 hx2 ⟨a4, a5, a6, a7, ys, rfl, sm, epl, hpv⟩
        rw [List.getElem?_map] at hx2
        obtain ⟨v, hv, rfl⟩ := Option.map_eq_some_iff.mp hx2
        have hj40 : j < 40 := by have := (List.getElem?_eq_some_iff.mp hv).1; omega
        have hB : ((given.take j).flatMap (dueL gs ((n0 : Int) + 1))).length ≤ j * 51 := Nat.le_trans (fm_len (b := 51) fun v' _ => dueL_len hns _ v') (Nat.mul_le_mul_right _ (by rw [List.length_take]; omega))
        have eB : (given.take (j + 1)).flatMap (dueL gs ((n0 : Int) + 1)) = (given.take j).flatMap (dueL gs ((n0 : Int) + 1)) ++ dueL gs ((n0 : Int) + 1) v := takeFM (f := dueL gs ((n0 : Int) + 1)) hv
        rw [eB, ← List.append_assoc]
        have hC : (LA ++ (given.take j).flatMap (dueL gs ((n0 : Int) + 1))).length ≤ 83640 := by rw [List.length_append]; omega
        generalize LA ++ (given.take j).flatMap (dueL gs ((n0 : Int) + 1)) = LB at hpv hC ⊢
        obtain ⟨m0, g', rfl, eg'⟩ := hgv v (List.mem_of_getElem? hv)
        have tab2 := tab.same sm
        have etb := tab2.tb
        obtain ⟨au, valu, pu, u1, u2, u3, u4⟩ := tab2.row eg
        obtain ⟨av, valv, pv_, v1, v2, v3, v4⟩ := tab2.row eg'
        walk_at "w"
        refine Z.w_ixH tab2.tn (at_pred (by rw [List.getElem?_map, u1]; rfl)) ?_
        walk_at "w"
        refine Z.w_ixH tab2.tn (at_pred (by rw [List.getElem?_map, v1]; rfl)) ?_
        walk_at "w"
        have ecu : callN gs ((n0 : Int) + 1) = if g.op = CALL then some g.kv else none := by unfold callN; rw [rowN_nat, eg]
        have ecv : callN gs ((m0 : Int) + 1) = if g'.op = CALL then some g'.kv else none := by unfold callN; rw [rowN_nat, eg']
        have skip : ¬ ((n0 : Int) + 1 ≠ (m0 : Int) + 1 ∧ callN gs ((n0 : Int) + 1) ≠ none ∧ callN gs ((n0 : Int) + 1) = callN gs ((m0 : Int) + 1)) → PairsV H2 ys (noteL gs [] (LB ++ dueL gs ((n0 : Int) + 1) ((m0 : Int) + 1))) := fun z => by
          unfold dueL
          rw [if_neg z, List.append_nil]
          exact hpv
        by_cases hne : (n0 : Int) + 1 = (m0 : Int) + 1
        · refine Z.w_iteNF hne ?_
          walk_at "w"
          exact ⟨_, _, _, _, ys, rfl, sm, epl, skip fun z => z.1 hne⟩
        refine Z.w_iteNT hne ?_
        walk_at "w"
        by_cases hop : g.op = CALL
        rotate_left
        · refine Z.w_iteF hop ?_
          walk_at "w"
          exact ⟨_, _, _, _, ys, rfl, sm, epl, skip fun z => z.2.1 (by rw [ecu, if_neg hop])⟩
        refine Z.w_iteT hop ?_
        walk_at "w"
        by_cases hop' : g'.op = CALL
        rotate_left
        · refine Z.w_iteF hop' ?_
          walk_at "w"
          exact ⟨_, _, _, _, ys, rfl, sm, epl, skip fun z => z.2.1 (by rw [z.2.2, ecv, if_neg hop'])⟩
        refine Z.w_iteT hop' ?_
        rw [if_pos hop] at ecu
        rw [if_pos hop'] at ecv
        obtain ⟨f, as, a1, a2, a3_, a4_⟩ := hw n0 g eg hop
        obtain ⟨f', as', b1, b2, b3, b4⟩ := hw m0 g' eg' hop'
        have eu : valu = .str (S f) := by
          rw [a1] at u3
          unfold ND.nk at u3
          exact u3
        have ev : valv = .str (S f') := by
          rw [b1] at v3
          unfold ND.nk at v3
          exact v3
        subst eu ev
        walk_at "w"
        by_cases hff : f = f'
        rotate_left
        · refine Z.w_iteF hff ?_
          walk_at "w"
          refine ⟨_, _, _, _, ys, rfl, sm, epl, skip fun z => hff ?_⟩
          have q := z.2.2
          rw [ecu, ecv, a1, b1] at q
          injection q with q
          injection q with q
          exact S_inj q
        refine Z.w_iteT hff ?_
        have hcc : callN gs ((n0 : Int) + 1) = callN gs ((m0 : Int) + 1) := by rw [ecu, ecv, a1, b1, hff]
        have hal := alike_calls hw (k := g.kv) ecu (hcc ▸ ecu)
        have exu : argsN gs ((n0 : Int) + 1) = g.ns := by unfold argsN; rw [rowN_nat, eg]
        have exv : argsN gs ((m0 : Int) + 1) = g'.ns := by unfold argsN; rw [rowN_nat, eg']
        have hlen : g.ns.length = g'.ns.length := by have := hal.2.1; rw [exu, exv] at this; exact this
        have hns1 := hns g (List.mem_of_getElem? eg)
        have eD : dueL gs ((n0 : Int) + 1) ((m0 : Int) + 1) = g.ns.zip g'.ns ++ [((n0 : Int) + 1, (m0 : Int) + 1)] := by
          unfold dueL
          rw [if_pos ⟨hne, (by rw [ecu]; intro z; cases z), hcc⟩, exu, exv]
        rw [eD, ← List.append_assoc]
        walk_at "w"
        have hl1 : (g.ns.map V.int).length = g.ns.length := List.length_map ..
        refine ⟨by omega, by omega, ?_⟩
        have nt2 : NoTup [pl] H2 := fun b hb zs' e => by rw [List.mem_singleton.mp hb, epl] at e; cases e
        refine for_range (lo := 0) (n := _) (fun k σ' H' => ∃ a7 ys, σ' = [some (.ref x.tb), some (.ref na), some (.ref pl), some (.int ((n0 : Int) + 1)), some (.int ((m0 : Int) + 1)), some (.ref au), some (.ref av), a7] ∧ Ch [pl] H2 H' ∧ H' pl = some (.lst ys) ∧ PairsV H' ys (noteL gs [] (LB ++ (g.ns.zip g'.ns).take k))) ⟨_, ys, rfl, Ch.refl _ _, epl, by rw [List.take_zero, List.append_nil]; exact hpv⟩ ?_ ?_
        · rintro k σ' H3 hk ⟨a7, ys, rfl, c3, epl3, hpv3⟩
          have hk1 : k < g.ns.length := by omega
          have hk2 : k < g'.ns.length := by omega
          have e0 : (0 : Int) + (k : Int) = (k : Int) := Int.zero_add _
          rw [e0]
          have k1 := c3.tup nt2 u2
          have k2 := c3.tup nt2 v2
          have k3 := c3.tup nt2 u4
          have k4 := c3.tup nt2 v4
          have g1 : g.ns[k]? = some g.ns[k] := List.getElem?_eq_getElem hk1
          have g2 : g'.ns[k]? = some g'.ns[k] := List.getElem?_eq_getElem hk2
          have hz : (g.ns.zip g'.ns).take (k + 1) = (g.ns.zip g'.ns).take k ++ [(g.ns[k], g'.ns[k])] := by
            rw [List.take_add_one, (List.getElem?_zip_eq_some (z := (g.ns[k], g'.ns[k]))).mpr ⟨g1, g2⟩]
            rfl
          obtain ⟨i', g'', r1, r2, _⟩ := a4_ k _ _ g1 (List.getElem?_eq_getElem (by rw [← a3_]; exact hk1))
          rw [hz, ← List.append_assoc, noteL_app]
          have hl5 : ys.length < 90000 := by
            have := noteL_len gs (LB ++ (g.ns.zip g'.ns).take k) []
            rw [hpv3.1]
            rw [List.length_append, List.length_take, List.length_zip] at this
            have z : ([] : List (Int × Int)).length = 0 := rfl
            omega
          generalize g.ns[k] = xa at g1 r1 ⊢
          generalize g'.ns[k] = xb at g2 ⊢
          walk_at "w"
          refine Z.w_ixTH k3 (atI_nat (by rw [List.getElem?_map, g1]; rfl)) ?_
          walk_at "w"
          refine Z.w_ixTH k4 (atI_nat (by rw [List.getElem?_map, g2]; rfl)) ?_
          walk_at "w"
          refine ⟨x, us, gs, pl, ys, _, xa, xb, rfl, tab.same (up sm c3), epl3, hpv3, hl5, ⟨i', g'', r1, r2⟩, fun H4 ys4 c4 e4 p4 => ?_⟩
          walk_at "w"
          exact ⟨_, ys4, rfl, c3.trans c4, e4, p4⟩
        · rintro σ' H3 ⟨a7, ys, rfl, c3, epl3, hpv3⟩
          have ez : (g.ns.zip g'.ns).take (Int.toNat ((g.ns.map V.int).length : Int)) = g.ns.zip g'.ns := by
            rw [Int.toNat_natCast, hl1]
            exact List.take_of_length_le (by rw [List.length_zip]; omega)
          rw [ez] at hpv3
          rw [noteL_app]
          have hl5 : ys.length < 90000 := by
            have := noteL_len gs (LB ++ g.ns.zip g'.ns) []
            rw [hpv3.1]
            rw [List.length_append, List.length_zip] at this
            have z : ([] : List (Int × Int)).length = 0 := rfl
            omega
          walk_at "w"
          refine ⟨x, us, gs, pl, ys, _, _, _, rfl, tab.same (up sm c3), epl3, hpv3, hl5, ⟨n0, g, rfl, eg⟩, fun H4 ys4 c4 e4 p4 => ?_⟩
          walk_at "w"
          exact ⟨_, _, _, _, ys4, rfl, up sm (c3.trans c4), e4, p4⟩
      · rintro σ' H' ⟨a4, a5, a6, a7, ys, rfl, sm, epl, hpv⟩
        rw [List.length_map, List.take_length] at hpv
        exact ⟨_, a4, a5, a6, a7, ys, rfl, sm, epl, hpv⟩
    · rintro σ' H' ⟨a3, a4, a5, a6, a7, ys, rfl, sm, epl, hpv⟩
      rw [List.length_map, List.take_length] at hpv
      walk_at "w"
      refine w_sortZ epl hpv (noteL_nd (by simp)) fun p ys' zs' H3 s3 hp e3 pv3 nd3 pw3 mem3 => ?_
      refine h p ys' zs' H3 (sm.trans s3) e3 (fresh_of1 sm hp) pv3 nd3 pw3 fun q => ?_
      rw [mem3, mem_dueA]
end
end L

namespace L
open PySem PySem.Spec PyProof.Rows L2 Z M
open _root_.SX (S S_len S_inj)
theorem at_one {xs : List V} {x v : V} {j : Nat} (h : xs[j]? = some v) : atI (x :: xs) ((1 : Int) + (j : Int)) = some v := by
  rw [show (1 : Int) + (j : Int) = ((j + 1 : Nat) : Int) by omega]
  exact atI_nat (by rw [List.getElem?_cons_succ]; exact h)
theorem w_rng2 {tl : L2.TA} {σ : L2.St} {H : Hp} {R : It → Hp → Prop} (h : tl σ H fun vs H1 => ∃ i j : Int, vs = [.int i, .int j] ∧ (-(2 ^ 62) ≤ i ∧ i < 2 ^ 62 ∧ -(2 ^ 62) ≤ j ∧ j < 2 ^ 62) ∧ R (Itr i (j - i).toNat) H1) : iRng2 tl σ H R := h
section
variable {P : Program} {w : World} {K : PySem.W.Frag} {mg : Str → Option Value} {base : Heap}
def spSome : Sp := fun vs H Q _ => ∃ (q ts : Addr) (gs : List GRow) (l : List Nat), vs = [.ref q, .ref ts, .str (S l)] ∧ PoolAt H q ∧ H ts = some (.lst (vS [] :: gs.map fun g => vS g.so)) ∧ gs.length ≤ 500 ∧ (∃ g ∈ gs, g.so = l) ∧
  ∀ H' (i : Nat) g, PX q H H' → gs[i]? = some g → g.so = l → Q (.int ((i : Int) + 1)) H'
theorem ok_some (T : Txt K mg) : FnOk P w K mg base CX0 2 T.f_some T.fd_some ["_law_pool_here", "_law_sorts", "_law_sort"] spSome := by
  have G_take := ok_take (P := P) (w := w) (base := base) T
  refine T.F_some.ok sc_some (fun vs H Q E h => ?_) (fun cdv A outer s H vs Q E hr h => ?_)
  · obtain ⟨q, ts, gs, l, rfl, _⟩ := h
    rfl
  · obtain ⟨q, ts, gs, l, rfl, hp, ets, hgl, ⟨g0, hg0, hl0⟩, h⟩ := h
    refine ⟨_, (pss_cons (ps_setLc (i := 3) (own := [("_law_n", 4)]) (g := gName 4) (by rfl) sc_some.nd rfl rfl (sw_true rfl rfl rfl (by decide +kernel)) (pi_range2 (by rfl) T.m_range (pa_cons pe_int (pa_cons (pe_callB call_len_seq (by rfl) T.m_len (by decide +kernel) (pa_cons (pv 1) pa_nil)) pa_nil))) (blkOk_by (own := [("_law_n", 4)]) (N := N_some) (sc := defScope s_some) (by decide +kernel)) (fun _ _ _ _ _ => pg_name (i := 4) sc_some.nd rfl (Or.inl rfl)) (fun _ _ _ _ _ => pts_one (pt_cmpR op_eq (pe_ix (show IxR _ (rIxL K) from ix_list) (pv 1) (pv 4) (fun _ _ => rfl)) (pv 2) (nomark _))) (fun _ _ _ _ _ => (pv 4)))
 (pss_one (ps_ret (pe_ix ix_list (pv 3) (pe_call G_take (hr.mono (by first | decide | omega)) (by rfl) T.g_take T.F_take.kp T.b_take .nil pass0 (pa_cons (pv 0) (pa_cons (pe_callB call_len_seq (by rfl) T.m_len (by decide +kernel) (pa_cons (pv 3) pa_nil)) pa_nil))) (fun _ _ => rfl))))), ?_⟩
    refine Z.w_start (σ' := [some (.ref q), some (.ref ts), some (.str (S l)), none, none]) rfl ?_
    have hln : (vS [] :: gs.map fun g => vS g.so).length = gs.length + 1 := by rw [List.length_cons, List.length_map]
    walk_at "w"
    refine w_rng2 ?_
    walk_at "w"
    refine ⟨⟨by omega, by omega, by omega, by omega⟩, fun D hD => ?_⟩
    refine lc_range (lo := 1) (n := _) (fun i H' => Same H H' ∧ ∃ ns : List Int, H' D = some (.lst (ns.map V.int)) ∧ ns.length ≤ i ∧ (∀ m ∈ ns, ∃ (j : Nat) (g : GRow), m = (j : Int) + 1 ∧ gs[j]? = some g ∧ g.so = l) ∧ ∀ (j : Nat) (g : GRow), j < i → gs[j]? = some g → g.so = l → ((j : Int) + 1) ∈ ns) ⟨same_of (Same.refl _) hD, [], upd_same, Nat.le_refl _, (fun m hm => by cases hm), fun j g hj => by omega⟩ ?_ ?_
    · rintro i H' hi ⟨sm, ns, eD, hnl, h1, h2⟩
      have hig : i < gs.length := by omega
      have eg : gs[i]? = some gs[i] := List.getElem?_eq_getElem hig
      generalize gs[i] = g at eg
      refine Z.w_gname (σ' := [some (.ref q), some (.ref ts), some (.str (S l)), none, some (.int ((1 : Int) + (i : Int)))]) rfl ⟨rfl, ?_⟩
      walk_at "w"
      refine Z.w_ixH (sm _ _ ets) (at_one (v := vS g.so) (by rw [List.getElem?_map, eg]; rfl)) ?_
      walk_at "w"
      have old : ∀ (ns' : List Int), (∀ m ∈ ns, m ∈ ns') → (g.so = l → ((i : Int) + 1) ∈ ns') → ∀ (j : Nat) (g : GRow), j < i + 1 → gs[j]? = some g → g.so = l → ((j : Int) + 1) ∈ ns' := fun ns' z1 z2 j g' hj e1 e2 => by
        by_cases hji : j < i
        · exact z1 _ (h2 j g' hji e1 e2)
        · obtain rfl : j = i := by omega
          rw [eg] at e1
          obtain rfl := Option.some.inj e1
          exact z2 e2
      by_cases hs : g.so = l
      · rw [if_pos (decide_eq_true hs)]
        walk_at "w"
        refine ⟨_, eD, by rw [List.length_map]; exact Nat.lt_of_le_of_lt (show ns.length ≤ 500 by omega) (by decide), same_mut sm hD, ns ++ [(1 : Int) + (i : Int)], by rw [upd_same, List.map_append]; rfl, by rw [List.length_append]; exact Nat.succ_le_succ hnl, fun m hm => ?_, old _ (fun m hm => List.mem_append.mpr (.inl hm)) fun _ => List.mem_append.mpr (.inr (by rw [List.mem_singleton]; omega))⟩
        rcases List.mem_append.mp hm with hm | hm
        · exact h1 m hm
        · exact ⟨i, g, by rw [List.mem_singleton.mp hm]; omega, eg, hs⟩
      · rw [if_neg fun z => hs (of_decide_eq_true z)]
        exact ⟨sm, ns, eD, by omega, h1, old _ (fun m hm => hm) fun z => absurd z hs⟩
    · rintro H' ⟨sm, ns, eD, hnl, h1, h2⟩
      have hn0 : ns ≠ [] := fun z => by
        obtain ⟨j, hj⟩ := List.mem_iff_getElem?.mp hg0
        have := h2 j g0 (by have := (List.getElem?_eq_some_iff.mp hj).1; omega) hj hl0
        rw [z] at this
        cases this
      have hnp : 0 < ns.length := List.length_pos_iff.mpr hn0
      have hnl2 : ns.length ≤ 500 := by omega
      have hlm : (ns.map V.int).length = ns.length := List.length_map ..
      have hp1 := hp.same sm
      have pxs : PX q H H' := (PX.refl hp).same sm
      walk_at "w"
      refine use_takeP hp1 (by rw [hlm]; omega) (by rw [hlm]; omega) fun r H2 px2 r0 r1 => ?_
      rw [hlm] at r1
      obtain ⟨k, rfl⟩ := Int.eq_ofNat_of_zero_le r0
      have hk : k < ns.length := by omega
      have ek : ns[k]? = some ns[k] := List.getElem?_eq_getElem hk
      obtain ⟨j, g, e1, e2, e3⟩ := h1 _ (List.getElem_mem hk)
      have nDq : D ≠ q := fun z => by
        obtain ⟨o3, h3, _⟩ := hp
        rw [z, h3] at hD
        cases hD
      refine Z.w_ixH (px2.3 _ _ nDq eD) (atI_nat (by rw [List.getElem?_map, ek]; rfl)) ?_
      rw [e1]
      exact h H2 j g (pxs.trans px2) e2 e3
def spList : Sp := fun vs H Q _ => ∃ (q : Addr) (n : Nat), vs = [.ref q, .int n] ∧ PoolAt H q ∧ 1 ≤ n ∧ n ≤ 100 ∧
  ∀ H' p (given : List Int), PX q H H' → H p = none → H' p = some (.lst (given.map V.int)) → given.length ≤ n + 1 → (∀ x ∈ given, ∃ i : Nat, x = (i : Int) + 1 ∧ i < n) → Q (.ref p) H'
theorem ok_list (T : Txt K mg) : FnOk P w K mg base CX0 2 T.f_list T.fd_list ["_law_pool_here", "_law_many"] spList := by
  have G_take := ok_take (P := P) (w := w) (base := base) T
  refine T.F_list.ok sc_list (fun vs H Q E h => ?_) (fun cdv A outer s H vs Q E hr h => ?_)
  · obtain ⟨q, n, rfl, _⟩ := h
    rfl
  · obtain ⟨q, n, rfl, hp, hn1, hn2, h⟩ := h
    refine ⟨_, (pss_cons (ps_setLc (i := 2) (own := [("_law_n", 3)]) (g := gName 3) (by rfl) sc_list.nd rfl rfl (sw_true rfl rfl rfl (by decide +kernel)) (pi_range2 (by rfl) T.m_range (pa_cons pe_int (pa_cons (pe_op op_add (pv 1) pe_int) pa_nil))) (blkOk_by (own := [("_law_n", 3)]) (N := N_list) (sc := defScope s_list) (by decide +kernel)) (fun _ _ _ _ _ => pg_name (i := 3) sc_list.nd rfl (Or.inl rfl)) (fun _ _ _ _ _ => pts_one (pt_cmpR op_gt (pe_call G_take (hr.mono (by first | decide | omega)) (by rfl) T.g_take T.F_take.kp T.b_take .nil pass0 (pa_cons (pv 0) (pa_cons pe_int pa_nil))) pe_int (nomark _))) (fun _ _ _ _ _ => (pv 3)))
 (pss_cons (ps_if (pt_cmpR op_eq (pe_call G_take (hr.mono (by first | decide | omega)) (by rfl) T.g_take T.F_take.kp T.b_take .nil pass0 (pa_cons (pv 0) (pa_cons pe_int pa_nil))) pe_int (nomark _)) (pss_one (ps_expr (pe_bm0 PySem.F.plainAttrs_list PySem.F.slot_list_reverse PySem.F.type_list_reverse mt_reverse (pv 2)))) pss_nil)
 (pss_cons (ps_if (pt_cmpR op_eq (pe_call G_take (hr.mono (by first | decide | omega)) (by rfl) T.g_take T.F_take.kp T.b_take .nil pass0 (pa_cons (pv 0) (pa_cons pe_int pa_nil))) pe_int (nomark _)) (pss_one (ps_expr (pe_bm PySem.F.plainAttrs_list PySem.F.slot_list_append PySem.F.type_list_append mt_append (pv 2) (pa_cons (pe_op op_add pe_int (pe_call G_take (hr.mono (by first | decide | omega)) (by rfl) T.g_take T.F_take.kp T.b_take .nil pass0 (pa_cons (pv 0) (pa_cons (pv 1) pa_nil)))) pa_nil)))) pss_nil)
 (pss_one (ps_ret (pv 2)))))), ?_⟩
    refine Z.w_start (σ' := [some (.ref q), some (.int (n : Int)), none, none]) rfl ?_
    walk_at "w"
    refine w_rng2 ?_
    walk_at "w"
    refine ⟨⟨by omega, by omega, by omega, by omega⟩, fun D hD => ?_⟩
    have nDq : D ≠ q := fun z => by
      obtain ⟨o3, h3, _⟩ := hp
      rw [z, h3] at hD
      cases hD
    refine lc_range (lo := 1) (n := _) (fun i H' => PX q H H' ∧ ∃ given : List Int, H' D = some (.lst (given.map V.int)) ∧ given.length ≤ i ∧ ∀ x ∈ given, ∃ j : Nat, x = (j : Int) + 1 ∧ j < n) ⟨(PX.refl hp).new hD, [], upd_same, Nat.le_refl _, fun m hm => by cases hm⟩ ?_ ?_
    · rintro i H' hi ⟨px, given, eD, hgl, h1⟩
      have hin : i < n := by omega
      refine Z.w_gname (σ' := [some (.ref q), some (.int (n : Int)), none, some (.int ((1 : Int) + (i : Int)))]) rfl ⟨rfl, ?_⟩
      walk_at "w"
      refine use_takeP px.2 (by decide) (by decide) fun r H2 px2 r0 r1 => ?_
      have eD2 := px2.3 _ _ nDq eD
      walk_at "w"
      by_cases hr0 : r > 0
      · rw [if_pos (decide_eq_true hr0)]
        walk_at "w"
        refine ⟨_, eD2, by rw [List.length_map]; exact Nat.lt_of_le_of_lt (show given.length ≤ 100 by omega) (by decide), (px.trans px2).mutF hp hD, given ++ [(1 : Int) + (i : Int)], by rw [upd_same, List.map_append]; rfl, by rw [List.length_append]; exact Nat.succ_le_succ hgl, fun m hm => ?_⟩
        rcases List.mem_append.mp hm with hm | hm
        · exact h1 m hm
        · exact ⟨i, by rw [List.mem_singleton.mp hm]; omega, hin⟩
      · rw [if_neg fun z => hr0 (of_decide_eq_true z)]
        exact ⟨px.trans px2, given, eD2, by omega, h1⟩
    · rintro H' ⟨px, given, eD, hgl, h1⟩
      have hgl : given.length ≤ n := by omega
      repeat' (first | with_reducible refine seqIf (fun σ' H2 => σ' = [some (.ref q), some (.int (n : Int)), some (.ref D), none] ∧ PX q H H2 ∧ ∃ given : List Int, H2 D = some (.lst (given.map V.int)) ∧ given.length ≤ n ∧ ∀ x ∈ given, ∃ j : Nat, x = (j : Int) + 1 ∧ j < n) (fun R kk => ?_) ?_ | walk_at "w1")
      · refine use_takeP px.2 (by decide) (by decide) fun r H2 px2 r0 r1 => ?_
        have eD2 := px2.3 _ _ nDq eD
        walk_at "w"
        by_cases hr0 : r = 0
        · rw [if_pos (decide_eq_true hr0)]
          walk_at "w"
          refine Z.w_bm0 ?_
          walk_at "w"
          refine Z.w_tyL eD2 ?_
          refine Z.w_rev eD2 ?_
          walk_at "w"
          refine kk _ _ ⟨rfl, (px.trans px2).mutF hp hD, given.reverse, by rw [upd_same, List.map_reverse], by rw [List.length_reverse]; exact hgl, fun x hx => h1 x (List.mem_reverse.mp hx)⟩
        · rw [if_neg fun z => hr0 (of_decide_eq_true z)]
          walk_at "w"
          exact kk _ _ ⟨rfl, px.trans px2, given, eD2, hgl, h1⟩
      · rintro _ H2 ⟨rfl, px, given, eD, hgl, h1⟩
        walk_at "w"
        refine use_takeP px.2 (by decide) (by decide) fun r H3 px3 r0 r1 => ?_
        have eD3 := px3.3 _ _ nDq eD
        have pxa := px.trans px3
        walk_at "w"
        by_cases hr0 : r = 0
        · rw [if_pos (decide_eq_true hr0)]
          walk_at "w"
          refine Z.w_bm ?_
          walk_at "w"
          refine Z.w_tyL eD3 ?_
          walk_at "w"
          refine use_takeP pxa.2 (by omega) (by omega) fun r2 H4 px4 s0 s1 => ?_
          have eD4 := px4.3 _ _ nDq eD3
          obtain ⟨k, rfl⟩ := Int.eq_ofNat_of_zero_le s0
          walk_at "w"
          refine Z.w_app eD4 (by rw [List.length_map]; omega) ?_
          walk_at "w"
          refine h _ D (given ++ [(1 : Int) + (k : Int)]) ((pxa.trans px4).mutF hp hD) hD (by rw [upd_same, List.map_append]; rfl) (by rw [List.length_append]; exact Nat.succ_le_succ hgl) fun x hx => ?_
          rcases List.mem_append.mp hx with hx | hx
          · exact h1 x hx
          · exact ⟨k, by rw [List.mem_singleton.mp hx]; omega, by omega⟩
        · rw [if_neg fun z => hr0 (of_decide_eq_true z)]
          walk_at "w"
          exact h _ D given pxa hD eD3 (by omega) h1
end
end L

namespace L
open PySem PySem.Spec PyProof.Rows L2 Z M
open _root_.SX (S S_len S_inj)
/-! how many pairs there can be -/
def Val (gs : List GRow) (a : Int) : Prop := ∃ (i : Nat) (g : GRow), a = (i : Int) + 1 ∧ gs[i]? = some g
theorem args_val {fs : List FnRow} {gs : List GRow} (hw : Wty fs gs) {u a : Int} {k : NestedKey} {j : Nat} (hu : callN gs u = some k) (h : (argsN gs u)[j]? = some a) : Val gs a := by
  unfold callN at hu
  unfold argsN at h
  cases e : rowN gs u with
  | none => rw [e] at hu; cases hu
  | some g =>
    rw [e] at hu h
    have hu : (if g.op = CALL then some g.kv else none) = some k := hu
    have h : g.ns[j]? = some a := h
    by_cases hc : g.op = CALL
    · unfold rowN at e
      by_cases h1 : 1 ≤ u
      · rw [if_pos h1] at e
        obtain ⟨f, as, a1, a2, a3, a4⟩ := hw _ g e hc
        have hj := (List.getElem?_eq_some_iff.mp h).1
        have hj2 : j < as.length := by rw [← a3]; exact hj
        obtain ⟨i', g', b1, b2, _⟩ := a4 j a _ h (List.getElem?_eq_getElem hj2)
        exact ⟨i', g', b1, b2⟩
      · rw [if_neg h1] at e; cases e
    · rw [if_neg hc] at hu; cases hu
theorem meets_val {fs : List FnRow} {gs : List GRow} (hw : Wty fs gs) {a b u v : Int} (hu : Val gs u) (hv : Val gs v) (h : Meets gs a b u v) : Val gs a ∧ Val gs b := by
  obtain ⟨⟨k, k1, k2⟩, _, _, h⟩ := h
  rcases h with ⟨rfl, rfl⟩ | ⟨j, h1, h2⟩
  · exact ⟨hu, hv⟩
  · exact ⟨args_val hw k1 h1, args_val hw k2 h2⟩
def sq (n : Nat) : List (Int × Int) := (List.range n).flatMap fun (i : Nat) => (List.range n).map fun (j : Nat) => ((i : Int) + 1, (j : Int) + 1)
theorem sq_len (n : Nat) : (sq n).length ≤ n * n := by
  have := fm_len (b := n) (l := List.range n) (f := fun (i : Nat) => (List.range n).map fun (j : Nat) => ((i : Int) + 1, (j : Int) + 1)) fun i _ => by rw [List.length_map, List.length_range]; exact Nat.le_refl _
  rw [List.length_range] at this
  exact this
theorem mem_sq {gs : List GRow} {a b : Int} (ha : Val gs a) (hb : Val gs b) : (a, b) ∈ sq gs.length := by
  obtain ⟨i, g, rfl, h1⟩ := ha
  obtain ⟨j, g', rfl, h2⟩ := hb
  exact List.mem_flatMap.mpr ⟨i, List.mem_range.mpr (List.getElem?_eq_some_iff.mp h1).1, List.mem_map.mpr ⟨j, List.mem_range.mpr (List.getElem?_eq_some_iff.mp h2).1, rfl⟩⟩
theorem pairs_few {fs : List FnRow} {gs : List GRow} (hw : Wty fs gs) {given : List Int} {zs : List (Int × Int)} (hg : ∀ x ∈ given, Val gs x) (nd : zs.Nodup) (h : ∀ q : Int × Int, q ∈ zs ↔ ∃ u v : Int, u ∈ given ∧ v ∈ given ∧ u ≠ v ∧ Meets gs q.1 q.2 u v) : zs.length ≤ gs.length * gs.length := by
  refine Nat.le_trans (nd.length_le_of_subset fun q hq => ?_) (sq_len gs.length)
  obtain ⟨u, v, hu, hv, _, hm⟩ := (h q).mp hq
  obtain ⟨h1, h2⟩ := meets_val hw (hg u hu) (hg v hv) hm
  exact mem_sq h1 h2
theorem gdL_pD (zs : List (Int × Int)) : gdLs (zs.map pD) = true := gdLs_of fun x hx => by
  obtain ⟨z, _, rfl⟩ := List.mem_map.mp hx
  rfl
def iD (i : Int) : PyData := .int i
theorem gdL_iD (zs : List Int) : gdLs (zs.map iD) = true := gdLs_of fun x hx => by
  obtain ⟨z, _, rfl⟩ := List.mem_map.mp hx
  rfl
theorem dpI {K : PySem.W.Frag} {H : Hp} : ∀ zs : List Int, DpAll K H (zs.map V.int) (zs.map iD)
  | [] => .nil
  | z :: zs => .cons (.int z) (dpI zs)
section
variable {P : Program} {w : World} {K : PySem.W.Frag} {mg : Str → Option Value} {base : Heap}
def spIterB (P : Program) (w : World) (CB : Addr) : Sp := fun vs H Q _ => ∃ (o : Addr) (t : BkO) (us : List Addr) (rs : List BRow), vs = [.ref o] ∧ BkAt P w CB H o t us rs ∧ ∀ p, H p = none → Q (.ref p) (upd H p (ItO t.ln p 0))
theorem ok_iterB (T : Txt K mg) : FnOk P w K mg base CX0 1 T.f_Bank_iter T.fd_Bank_iter ["self"] (spIterB P w T.C_Bank) := by
  refine T.F_Bank_iter.ok sc_Bank_iter (fun vs H Q E h => ?_) (fun cdv A outer s H vs Q E hr h => ?_)
  · obtain ⟨o, t, us, rs, rfl, _⟩ := h
    rfl
  · obtain ⟨o, t, us, rs, rfl, bk, h⟩ := h
    have hln := bk.ln
    refine ⟨_, (pss_one (ps_ret (pe_callB call_iterL (by rfl) T.m_iter (by decide +kernel) (pa_cons (pe_fld (pv 0) rfl) pa_nil)))), ?_⟩
    refine Z.w_start (σ' := [some (.ref o)]) rfl ?_
    walk_at "w"
    refine w_fldT T.cl_Bank T.n_Bank__nodes bk.obj rfl ?_
    refine ⟨t.ln, _, rfl, .inl (.inl hln), fun p hp => ?_⟩
    walk_at "w"
    exact h p hp
theorem w_bankLen {CB o : Addr} {t : BkO} {us : List Addr} {rs : List BRow} {H : Hp} {Q : VK} (bk : BkAt P w CB H o t us rs) (hl : rs.length ≤ 500) (q : Q (.int rs.length) H) : OWN.rLenOwn CB (spLenB P w CB) [.ref o] H Q :=
  ⟨o, _, _, rfl, bk.obj, o, t, us, rs, rfl, bk, rs.length, rfl, Nat.lt_of_le_of_lt hl (by decide), q⟩
theorem w_bankList {CB o : Addr} {t : BkO} {us : List Addr} {rs : List BRow} {H : Hp} {Q : VK} (bk : BkAt P w CB H o t us rs) (hl : rs.length ≤ 500) (q : ∀ p H', H p = none → Same H H' → H' p = some (.lst (us.map V.ref)) → Q (.ref p) H') : OWN.rListIt K CB (spIterB P w CB) (spLenB P w CB) [.ref o] H Q := by
  have h1 := bk.obj
  have h2 := bk.ln
  have hul : (us.map V.ref).length = rs.length := by rw [List.length_map]; exact bk.len
  refine ⟨o, _, _, rfl, h1, fun p hp => ⟨o, t, us, rs, rfl, bk.same (same_of (Same.refl _) hp), fun it hit => ?_⟩⟩
  have s1 := same_of (Same.refl H) hp (o := .lst [])
  have npi : p ≠ it := fun e => by subst e; rw [upd_same] at hit; cases hit
  have hit0 : H it = none := by rw [upd_ne npi.symm] at hit; exact hit
  have s2 := same_of s1 hit (o := ItO t.ln it 0)
  have nlp : t.ln ≠ p := ne_of_none h2 hp
  have nli : t.ln ≠ it := ne_of_none h2 hit0
  refine ⟨t.ln, it, us.map V.ref, H, _, t.dx, rfl, rfl, nlp, nli, npi, by rw [hul]; exact Nat.le_trans hl (by decide), .inl (.inl h2), s2 _ _ h1, o, t, us, rs, rfl, bk.same s2, rs.length, rfl, Nat.lt_of_le_of_lt hl (by decide), rfl, fun j e => ?_, ?_⟩
  · have e1 : (rs.length : Int) = (j : Int) := V.int.inj e
    exact Nat.le_trans (show j ≤ 500 by omega) (by decide)
  · have hit2 : upd H p (.lst (us.map V.ref)) it = none := by rw [upd_ne npi.symm]; exact hit0
    refine q p _ hp (same_of (same_of (Same.refl _) hp) hit2) ?_
    rw [upd_ne npi, upd_same]
def spTold (P : Program) (w : World) (CB CS : Addr) : Sp := fun vs H Q _ => ∃ (X : LX) (ra : List Addr) (tl : List Nat) (rows : List WRow) (us ws : List Addr) (gs : List GRow) (na : Addr) (given : List Int), vs = [.ref X.x.tb, .ref X.o, .ref na] ∧ LAt P w CB CS H X ra tl rows us ws gs ∧ gs.length ≤ 30 ∧ H na = some (.lst (given.map V.int)) ∧ given.length ≤ 40 ∧ (∀ x ∈ given, Val gs x) ∧ ∀ H', Same H H' → Q (.bl true) H'
theorem ok_told (T : Txt K mg) : FnOk P w K mg base CX0 5 T.f_pairs_told T.fd_pairs_told ["_law_table", "_law_bank", "_law_given"] (spTold P w T.C_Bank T.C_Signature) := by
  have G_due := ok_due (P := P) (w := w) (base := base) T
  have G_meeting_pairs := ok_meet (P := P) (w := w) (base := base) T
  have G_alike := ok_alikeL (P := P) (w := w) (base := base) T 1
  have G_alikeI := ok_alike (P := P) (w := w) (base := base) T 1
  have G_Bank_len := ok_lenB (P := P) (w := w) (base := base) T
  refine T.F_pairs_told.ok sc_pairs_told (fun vs H Q E h => ?_) (fun cdv A outer s H vs Q E hr h => ?_)
  · obtain ⟨X, ra, tl, rows, us, ws, gs, na, given, rfl, _⟩ := h
    rfl
  · obtain ⟨X, ra, tl, rows, us, ws, gs, na, given, rfl, la, hgl, hna, hg40, hgv, h⟩ := h
    refine ⟨_, (pss_cons (ps_set (i := 3) sc_pairs_told.nd rfl (.inl rfl) (pe_call G_due (hr.mono (by first | decide | omega)) (by rfl) T.g_due T.F_due.kp T.b_due .nil pass0 (pa_cons (pv 0) (pa_cons (pv 2) pa_nil))))
 (pss_cons (ps_set (i := 4) sc_pairs_told.nd rfl (.inl rfl) (pe_callTy call_list_of (by rfl) T.m_list (by decide +kernel) (pa_cons (pv 2) pa_nil)))
 (pss_cons (ps_set (i := 5) sc_pairs_told.nd rfl (.inl rfl) (pe_call G_meeting_pairs (hr.mono (by first | decide | omega)) (by rfl) T.g_meeting_pairs T.F_meeting_pairs.kp T.b_meeting_pairs .nil pass0 (pa_cons (pv 1) (pa_cons (pv 4) pa_nil))))
 (pss_cons (ps_if (PW.pt (pw_or (pt_not (pt_val (pe_call G_alike (hr.mono (by first | decide | omega)) (by rfl) T.g_alike T.F_alike.kp T.b_alike .nil pass0 (pa_cons (pv 5) (pa_cons (pv 3) pa_nil))))) (pw_or1 (pt_not (pt_val (pe_call G_alike (hr.mono (by first | decide | omega)) (by rfl) T.g_alike T.F_alike.kp T.b_alike .nil pass0 (pa_cons (pv 4) (pa_cons (pv 2) pa_nil)))))))) (pss_one (ps_ret pe_bl)) pss_nil)
 (pss_cons (ps_expr (pe_bm PySem.F.plainAttrs_list PySem.F.slot_list_append PySem.F.type_list_append mt_append (pv 5) (pa_cons (pe_tup (pa_cons pe_int (pa_cons pe_int pa_nil))) pa_nil)))
 (pss_cons (ps_expr (pe_bm0 PySem.F.plainAttrs_list PySem.F.slot_list_reverse PySem.F.type_list_reverse mt_reverse (pv 5)))
 (pss_one (ps_ret (pe_and (pe_call G_alike (hr.mono (by first | decide | omega)) (by rfl) T.g_alike T.F_alike.kp T.b_alike .nil pass0 (pa_cons (pe_call G_meeting_pairs (hr.mono (by first | decide | omega)) (by rfl) T.g_meeting_pairs T.F_meeting_pairs.kp T.b_meeting_pairs .nil pass0 (pa_cons (pv 1) (pa_cons (pv 4) pa_nil))) (pa_cons (pv 3) pa_nil))) (pe_one (pe_call G_alikeI (hr.mono (by first | decide | omega)) (by rfl) T.g_alike T.F_alike.kp T.b_alike .nil pass0 (pa_cons (pe_callB (OWN.call_lenOwn T.ln_Bank G_Bank_len T.b_Bank_len (hr.mono (by first | decide | omega))) (by rfl) T.m_len (by decide +kernel) (pa_cons (pv 1) pa_nil)) (pa_cons (pe_callB call_len_seq (by rfl) T.m_len (by decide +kernel) (pa_cons (pe_ix ix_list (pv 0) pe_int (fun _ _ => rfl)) pa_nil)) pa_nil))))))))))))), ?_⟩
    refine Z.w_start (σ' := [some (.ref X.x.tb), some (.ref X.o), some (.ref na), none, none, none]) rfl ?_
    walk_at "w"
    refine ⟨X.x, ws, gs, _, na, given, rfl, la.tab, la.wty, hna, hg40, hgv, la.nsl, fun pd ys zs H1 s1 e1 f1 pv1 nd1 pw1 mem1 => ?_⟩
    have hzl : zs.length ≤ 1000 := Nat.le_trans (pairs_few la.wty hgv nd1 mem1) (Nat.le_trans (Nat.mul_le_mul hgl hgl) (by decide))
    have hna1 := s1 _ _ hna
    walk_at "w"
    intro pp fpp
    have s2 : Same H1 (upd H1 pp (.lst (given.map V.int))) := same_of (Same.refl _) fpp
    have e2 : upd H1 pp (.lst (given.map V.int)) pp = some (.lst (given.map V.int)) := upd_same
    generalize upd H1 pp (.lst (given.map V.int)) = H2 at s2 e2 ⊢
    have s02 := s1.trans s2
    walk_at "w"
    refine ⟨X.o, X.t, us, gs, _, pp, given, rfl, la.bk.same s02, la.wty, .inl (.inl e2), by omega, hgv, la.nsl, fun pt ys3 zs3 H3 s3 e3 f3 pv3 nd3 pw3 mem3 => ?_⟩
    have eZ : zs3 = zs := lex_eq nd3 nd1 pw3 pw1 fun q => (mem3 q).trans (mem1 q).symm
    subst eZ
    have s03 := s02.trans s3
    have e13 := s3 _ _ (s2 _ _ e1)
    have pv13 := (pv1.same s2).same s3
    walk_at "w"
    refine ⟨pt, pd, _, _, zs3.map pD, rfl, e3, e13, pv3.dp, pv13.dp, gdL_pD _, by rw [List.length_map]; exact hzl, fun d hd => ?_, ?_⟩
    · obtain ⟨z, _, rfl⟩ := List.mem_map.mp hd
      rw [pD_depth]
      exact Nat.le_refl _
    walk_at "w"
    refine ⟨pp, na, _, _, given.map iD, rfl, s3 _ _ e2, s03 _ _ hna, dpI _, dpI _, gdL_iD _, by rw [List.length_map]; omega, fun d hd => ?_, ?_⟩
    · obtain ⟨z, _, rfl⟩ := List.mem_map.mp hd
      exact Nat.zero_le _
    walk_at "w"
    refine Z.w_bm ?_
    walk_at "w"
    refine Z.w_tyL e3 ?_
    walk_at "w"
    rename_i t0 ht0
    have hpt0 : H pt = none := fresh_of1 s02 f3
    have s4 : Same H3 (upd H3 t0 (.tup [.int 0, .int 0])) := same_of (Same.refl _) ht0
    have s04 := s03.trans s4
    have e4 := s4 _ _ e3
    have npp : pt ≠ pp := ne_of_none e2 f3 |>.symm
    have npd : pt ≠ pd := ne_of_none (s2 _ _ e1) f3 |>.symm
    have e4p := s4 _ _ (s3 _ _ e2)
    have e4d := s4 _ _ e13
    have pv4 := pv13.same s4
    generalize upd H3 t0 (.tup [.int 0, .int 0]) = H4 at s4 s04 e4 e4p e4d pv4 ⊢
    have hyl : ys3.length ≤ 1000 := by rw [pv3.1]; exact hzl
    refine Z.w_app e4 (by omega) ?_
    have s05 : Same H (upd H4 pt (.lst (ys3 ++ [.ref t0]))) := same_mut s04 hpt0
    have e5 : upd H4 pt (.lst (ys3 ++ [.ref t0])) pt = some (.lst (ys3 ++ [.ref t0])) := upd_same
    have e5p : upd H4 pt (.lst (ys3 ++ [.ref t0])) pp = some (.lst (given.map V.int)) := by rw [upd_ne npp.symm]; exact e4p
    have e5d : upd H4 pt (.lst (ys3 ++ [.ref t0])) pd = some (.lst ys) := by rw [upd_ne npd.symm]; exact e4d
    have pv5 : PairsV (upd H4 pt (.lst (ys3 ++ [.ref t0]))) ys zs3 := pv4.ch (S := [pt]) ((Ch.refl _ _).put (by simp)) fun b hb ys' e => by rw [List.mem_singleton.mp hb, e4] at e; cases e
    generalize upd H4 pt (.lst (ys3 ++ [.ref t0])) = H5 at s05 e5 e5p e5d pv5 ⊢
    walk_at "w"
    refine Z.w_bm0 ?_
    walk_at "w"
    refine Z.w_tyL e5 ?_
    refine Z.w_rev e5 ?_
    have s06 : Same H (upd H5 pt (.lst (ys3 ++ [V.ref t0]).reverse)) := same_mut s05 hpt0
    have e6p : upd H5 pt (.lst (ys3 ++ [V.ref t0]).reverse) pp = some (.lst (given.map V.int)) := by rw [upd_ne npp.symm]; exact e5p
    have e6d : upd H5 pt (.lst (ys3 ++ [V.ref t0]).reverse) pd = some (.lst ys) := by rw [upd_ne npd.symm]; exact e5d
    have pv6 : PairsV (upd H5 pt (.lst (ys3 ++ [V.ref t0]).reverse)) ys zs3 := pv5.ch (S := [pt]) ((Ch.refl _ _).put (by simp)) fun b hb ys' e => by rw [List.mem_singleton.mp hb, e5] at e; cases e
    generalize upd H5 pt (.lst (ys3 ++ [V.ref t0]).reverse) = H6 at s06 e6p e6d pv6 ⊢
    walk_at "w"
    refine ⟨X.o, X.t, us, gs, _, pp, given, rfl, la.bk.same s06, la.wty, .inl (.inl e6p), by omega, hgv, la.nsl, fun pt7 ys7 zs7 H7 s7 e7 f7 pv7 nd7 pw7 mem7 => ?_⟩
    have eZ : zs7 = zs3 := lex_eq nd7 nd3 pw7 pw3 fun q => (mem7 q).trans (mem3 q).symm
    subst eZ
    have s07 := s06.trans s7
    walk_at "w"
    refine ⟨pt7, pd, _, _, zs7.map pD, rfl, e7, s7 _ _ e6d, pv7.dp, (pv6.same s7).dp, gdL_pD _, by rw [List.length_map]; exact hzl, fun d hd => ?_, ?_⟩
    · obtain ⟨z, _, rfl⟩ := List.mem_map.mp hd
      rw [pD_depth]
      exact Nat.le_refl _
    walk_at "w"
    have bk7 := la.bk.same s07
    have tab7 := la.tab.same s07
    have etb7 := tab7.tb
    have etn7 := tab7.tn
    refine w_bankLen bk7 (by rw [List.length_map]; omega) ?_
    walk_at "w"
    have el : ((ws.map V.ref).length : Int) = ((gs.map GRow.b).length : Int) := by rw [List.length_map, List.length_map, la.tab.len]
    rw [el]
    exact ⟨_, _, .int ((gs.map GRow.b).length : Int), rfl, .int _, .int _, rfl, Nat.zero_le _, h H7 s07⟩
end
end L

namespace L
open PySem PySem.Spec PyProof.Rows L2 Z M
open _root_.SX (S S_len S_inj)
theorem LAt.nq {P : Program} {w : World} {CB CS q : Addr} {H : Hp} {X : LX} {ra : List Addr} {tl : List Nat} {rows : List WRow} {us vs : List Addr} {gs : List GRow} (h : LAt P w CB CS H X ra tl rows us vs gs) (hp : PoolAt H q) :
    q ≠ X.wa ∧ q ≠ X.rl ∧ q ≠ X.t.sg ∧ q ≠ X.tg.ds ∧ q ≠ X.tg.df ∧ q ≠ X.o ∧ q ≠ X.x.tb ∧ q ∉ X.s := by
  have hp' := hp
  obtain ⟨o3, h3, c, k, b, s, rfl⟩ := hp
  obtain ⟨ks, k1, _⟩ := h.sg.so
  obtain ⟨kf, f1, _⟩ := h.sg.fu
  obtain ⟨kn, n1, _⟩ := h.bk.nums
  obtain ⟨kt, t1, _⟩ := h.tab.nums
  refine ⟨(h.wd.nq hp').1.symm, (h.wd.nq hp').2.symm, fun z => ?_, fun z => ?_, fun z => ?_, fun z => ?_, (ne_pool hp' h.tab.tb fun c k b s z => by cases z).symm, fun z => ?_⟩
  · rw [z, h.sg.obj] at h3; cases h3
  · rw [z, k1] at h3; cases h3
  · rw [z, f1] at h3; cases h3
  · rw [z, h.bk.obj] at h3; cases h3
  · unfold LX.s at z
    rcases List.mem_cons.mp z with z | z
    · exact (ne_pool hp' h.bk.ln fun c k b s z => by cases us <;> simp at z) z.symm
    rcases List.mem_cons.mp z with z | z
    · exact (ne_pool hp' h.bk.ls fun c k b s z => by cases gs <;> simp at z) z.symm
    rcases List.mem_cons.mp z with z | z
    · exact nd_ne n1 h3 z
    rcases List.mem_cons.mp z with z | z
    · exact (ne_pool hp' h.tab.tn fun c k b s z => by cases vs <;> simp at z) z.symm
    rcases List.mem_cons.mp z with z | z
    · exact (ne_pool hp' h.tab.ts fun c k b s z => by cases z) z.symm
    · exact nd_ne t1 h3 (List.mem_singleton.mp z)
theorem LAt.px {P : Program} {w : World} {CB CS q : Addr} {H H' : Hp} {X : LX} {ra : List Addr} {tl : List Nat} {rows : List WRow} {us vs : List Addr} {gs : List GRow} (h : LAt P w CB CS H X ra tl rows us vs gs) (hp : PoolAt H q) (px : PX q H H') : LAt P w CB CS H' X ra tl rows us vs gs :=
  h.ch (S := [q]) (Ch.px px (List.mem_singleton.mpr rfl)) (fun b hb ys e => tup_pool hp e (List.mem_singleton.mp hb)) fun b hb => by rw [List.mem_singleton.mp hb]; exact h.nq hp
def KS : List Nat := [3, 8, 11, 14, 15, 16, 17]
def GoodK (tl : List Nat) (rows : List WRow) : Prop := ∀ k : Nat, k ∈ KS → ∃ r, rows[k]? = some r ∧ r.args ≠ [] ∧ r.args.length ≤ 50 ∧ ∀ a ∈ r.args, a ∈ sort3 tl
def Has3 (tl : List Nat) (gs : List GRow) : Prop := ∀ s ∈ sort3 tl, ∃ g ∈ gs, g.so = s
def ArgsOk (gs : List GRow) (args : List (List Nat)) (ns : List Int) : Prop := ns.length = args.length ∧ ∀ (j : Nat) (n : Int) (a : List Nat), ns[j]? = some n → args[j]? = some a → ∃ (i : Nat) (g : GRow), n = (i : Int) + 1 ∧ gs[i]? = some g ∧ g.so = a
theorem Has3.put {tl : List Nat} {gs : List GRow} (h : Has3 tl gs) (g : GRow) : Has3 tl (putG gs g) := fun s hs => by
  obtain ⟨g', h1, h2⟩ := h s hs
  obtain ⟨i, hi⟩ := List.mem_iff_getElem?.mp h1
  exact ⟨g', List.mem_of_getElem? (putG_get hi), h2⟩
theorem ArgsOk.snoc {gs : List GRow} {args : List (List Nat)} {ns : List Int} (h : ArgsOk gs args ns) {l : List Nat} {i : Nat} {g : GRow} (e1 : gs[i]? = some g) (e2 : g.so = l) : ArgsOk gs (args ++ [l]) (ns ++ [(i : Int) + 1]) := by
  refine ⟨by rw [List.length_append, List.length_append, h.1]; rfl, fun j n a f1 f2 => ?_⟩
  by_cases hj : j < ns.length
  · rw [List.getElem?_append_left hj] at f1
    rw [List.getElem?_append_left (by rw [← h.1]; exact hj)] at f2
    exact h.2 j n a f1 f2
  · have hl := (List.getElem?_eq_some_iff.mp f1).1
    rw [List.length_append, List.length_singleton] at hl
    obtain rfl : j = ns.length := by omega
    rw [List.getElem?_append_right (Nat.le_refl _), Nat.sub_self] at f1
    rw [h.1, List.getElem?_append_right (Nat.le_refl _), Nat.sub_self] at f2
    obtain rfl := Option.some.inj f1
    obtain rfl := Option.some.inj f2
    exact ⟨i, g, rfl, e1, e2⟩
theorem ArgsOk.set {gs : List GRow} {args : List (List Nat)} {ns ms : List Int} (h : ArgsOk gs args ns) (hm : ArgsOk gs args ms) {k : Nat} {x : Int} (hx : ms[k]? = some x) : ArgsOk gs args (ns.set k x) := by
  refine ⟨by rw [List.length_set]; exact h.1, fun j n a f1 f2 => ?_⟩
  rw [List.getElem?_set] at f1
  by_cases hj : k = j
  · subst hj
    rw [if_pos rfl] at f1
    by_cases hl : k < ns.length
    · rw [if_pos hl] at f1
      obtain rfl := Option.some.inj f1
      exact hm.2 k _ a hx f2
    · rw [if_neg hl] at f1; cases f1
  · rw [if_neg hj] at f1
    exact h.2 j n a f1 f2
section
variable {P : Program} {w : World} {K : PySem.W.Frag} {mg : Str → Option Value} {base : Heap}
def spCalled (P : Program) (w : World) (CB CS : Addr) : Sp := fun vs H Q _ => ∃ (X : LX) (ra : List Addr) (tl : List Nat) (rows : List WRow) (us ws : List Addr) (gs : List GRow) (q : Addr) (k : Nat),
  vs = [.ref q, .ref X.wa, .ref X.x.tb, .ref X.o, .int (k : Int)] ∧ PoolAt H q ∧ LAt P w CB CS H X ra tl rows us ws gs ∧ k ∈ KS ∧ GoodK tl rows ∧ Has3 tl gs ∧ gs.length ≤ 100 ∧
  ∀ H' us' ws' gs' (i : Nat), Ch (q :: X.s) H H' → PoolAt H' q → LAt P w CB CS H' X ra tl rows us' ws' gs' → gs'.length ≤ gs.length + 1 → Has3 tl gs' → Q (.int ((i : Int) + 1)) H'
theorem ok_called (T : Txt K mg) (W : Tw K mg T w) : FnOk P w K mg base CX0 6 T.f_called T.fd_called ["_law_pool_here", "_law_world_here", "_law_table", "_law_bank", "_law_liked"] (spCalled P w T.C_Bank T.C_Signature) := by
  have G_take := ok_take (P := P) (w := w) (base := base) T
  have G_some := ok_some (P := P) (w := w) (base := base) T
  have G_make := ok_makeL (P := P) (base := base) T W
  refine T.F_called.ok sc_called (fun vs H Q E h => ?_) (fun cdv A outer s H vs Q E hr h => ?_)
  · obtain ⟨X, ra, tl, rows, us, ws, gs, q, k, rfl, _⟩ := h
    rfl
  · obtain ⟨X, ra, tl, rows, us, ws, gs, q, k, rfl, hp, la, hk, hgk, h3, hgl, h⟩ := h
    have row : ∀ k ∈ KS, ∃ a r b, ra[k]? = some a ∧ rows[k]? = some r ∧ H a = some (.tup [vS r.name, .ref b, vS r.res]) ∧ H b = some (.tup (r.args.map vS)) ∧ r.args ≠ [] ∧ r.args.length ≤ 50 ∧ ∀ a ∈ r.args, a ∈ sort3 tl := fun k hk => by
      obtain ⟨r, r1, r2, r3, r4⟩ := hgk k hk
      have hl : k < ra.length := by rw [la.wd.len]; exact (List.getElem?_eq_some_iff.mp r1).1
      obtain ⟨b, b1, b2⟩ := la.wd.at_ k _ r (List.getElem?_eq_getElem hl) r1
      exact ⟨ra[k], r, b, List.getElem?_eq_getElem hl, r1, b1, b2, r2, r3, r4⟩
    have ew := la.wd.w
    have er := la.wd.r
    refine ⟨_, (pss_cons (ps_set (i := 5) sc_called.nd rfl (.inr rfl) (pe_ix ix_list (pe_ix ix_list (pv 1) pe_int (fun _ _ => rfl)) (pv 4) (fun _ _ => rfl)))
 (pss_cons (ps_if (pt_cmpR op_eq (pe_call G_take (hr.mono (by first | decide | omega)) (by rfl) T.g_take T.F_take.kp T.b_take .nil pass0 (pa_cons (pv 0) (pa_cons pe_int pa_nil))) pe_int (nomark _)) (pss_one (ps_set (i := 5) sc_called.nd rfl (.inr rfl) (pe_ix ix_list (pe_ix ix_list (pv 1) pe_int (fun _ _ => rfl)) (pe_ix ix_tup (pe_tup (pa_cons pe_int (pa_cons pe_int (pa_cons pe_int (pa_cons pe_int (pa_cons pe_int (pa_cons pe_int (pa_cons pe_int pa_nil)))))))) (pe_call G_take (hr.mono (by first | decide | omega)) (by rfl) T.g_take T.F_take.kp T.b_take .nil pass0 (pa_cons (pv 0) (pa_cons pe_int pa_nil))) (fun _ _ => rfl)) (fun _ _ => rfl)))) pss_nil)
 (pss_cons (ps_setLc (i := 6) (own := [("_law_sort", 7)]) (g := gName 7) (tt := tYes) (by rfl) sc_called.nd rfl rfl (sw_true rfl rfl rfl (by decide +kernel)) (pi_tup (pe_ix ix_tup (pv 5) pe_int (fun _ _ => rfl))) (blkOk_by (own := [("_law_sort", 7)]) (N := N_called) (sc := defScope s_called) (by decide +kernel)) (fun _ _ _ _ _ => pg_name (i := 7) sc_called.nd rfl (Or.inl rfl)) (fun _ _ _ _ _ => pts_nil) (fun _ _ _ _ _ => (pe_call G_some (hr.mono (by first | decide | omega)) (by rfl) T.g_some T.F_some.kp T.b_some .nil pass0 (pa_cons (pv 0) (pa_cons (pe_ix (show IxR _ (rIxL K) from ix_list) (pv 2) pe_int (fun _ _ => rfl)) (pa_cons (pv 7) pa_nil))))))
 (pss_cons (ps_setLc (i := 8) (own := [("_law_node", 9)]) (g := gName 9) (by rfl) sc_called.nd rfl rfl (sw_true rfl rfl rfl (by decide +kernel)) (pi_list (pe_ix ix_list (pv 2) pe_int (fun _ _ => rfl))) (blkOk_by (own := [("_law_node", 9)]) (N := N_called) (sc := defScope s_called) (by decide +kernel)) (fun _ _ _ _ _ => pg_name (i := 9) sc_called.nd rfl (Or.inl rfl)) (fun _ _ _ _ _ => pts_one (PW.pt (pw_and (pt_cmpR op_eq (pe_ix (show IxR _ (rIxT K) from ix_tup) (pv 9) pe_int (fun _ _ => rfl)) (MT.pe_strS (l := [99, 97, 108, 108]) (by decide +kernel)) (nomark _)) (pw_and1 (pt_cmpR op_eq (pe_ix (show IxR _ (rIxT K) from ix_tup) (pv 9) pe_int (fun _ _ => rfl)) (pe_ix (show IxR _ (rIxT K) from ix_tup) (pv 5) pe_int (fun _ _ => rfl)) (nomark _)))))) (fun _ _ _ _ _ => (pv 9)))
 (pss_cons (ps_if (PW.pt (pw_and (pt_cmpR op_gt (pe_callB call_len_seq (by rfl) T.m_len (by decide +kernel) (pa_cons (pv 8) pa_nil)) pe_int (nomark _)) (pw_and1 (pt_cmpR op_eq (pe_call G_take (hr.mono (by first | decide | omega)) (by rfl) T.g_take T.F_take.kp T.b_take .nil pass0 (pa_cons (pv 0) (pa_cons pe_int pa_nil))) pe_int (nomark _))))) (pss_cons (ps_set (i := 10) sc_called.nd rfl (.inl rfl) (pe_call G_take (hr.mono (by first | decide | omega)) (by rfl) T.g_take T.F_take.kp T.b_take .nil pass0 (pa_cons (pv 0) (pa_cons (pe_callB call_len_seq (by rfl) T.m_len (by decide +kernel) (pa_cons (pv 6) pa_nil)) pa_nil))))
 (pss_cons (ps_set (i := 11) sc_called.nd rfl (.inl rfl) (pe_ix ix_list (pv 6) (pv 10) (fun _ _ => rfl)))
 (pss_cons (ps_set (i := 6) sc_called.nd rfl (.inl rfl) (pe_callTy call_list_of (by rfl) T.m_list (by decide +kernel) (pa_cons (pe_ix ix_tup (pe_ix ix_list (pv 8) (pe_call G_take (hr.mono (by first | decide | omega)) (by rfl) T.g_take T.F_take.kp T.b_take .nil pass0 (pa_cons (pv 0) (pa_cons (pe_callB call_len_seq (by rfl) T.m_len (by decide +kernel) (pa_cons (pv 8) pa_nil)) pa_nil))) (fun _ _ => rfl)) pe_int (fun _ _ => rfl)) pa_nil)))
 (pss_one (ps_asg (pv 11) (pg_sub (pv 6) (pv 10) set_list)))))) pss_nil)
 (pss_one (ps_ret (pe_call G_make (hr.mono (by first | decide | omega)) (by rfl) T.g_make T.F_make.kp T.b_make .nil pass0 (pa_cons (pv 1) (pa_cons (pv 2) (pa_cons (pv 3) (pa_cons (pe_tup (pa_cons (MT.pe_strS (l := [99, 97, 108, 108]) (by decide +kernel)) (pa_cons (pe_ix ix_tup (pv 5) pe_int (fun _ _ => rfl)) (pa_cons (pe_callTy call_tuple_of (by rfl) T.m_tuple (by decide +kernel) (pa_cons (pv 6) pa_nil)) pa_nil)))) pa_nil)))))))))))), ?_⟩
    refine Z.w_start (σ' := [some (.ref q), some (.ref X.wa), some (.ref X.x.tb), some (.ref X.o), some (.int (k : Int)), none, none, none, none, none, none, none]) rfl ?_
    obtain ⟨a0, r0, b0, a1, a2, a3, a4, a5, a6, a7⟩ := row k hk
    walk_at "w"
    refine Z.w_ixH er (atI_nat (by rw [List.getElem?_map, a1]; rfl)) ?_
    repeat' (first | with_reducible refine seqIf (fun σ' H' => ∃ a r b, σ' = [some (.ref q), some (.ref X.wa), some (.ref X.x.tb), some (.ref X.o), some (.int (k : Int)), some (.ref a), none, none, none, none, none, none] ∧ PX q H H' ∧ r ∈ rows ∧ H a = some (.tup [vS r.name, .ref b, vS r.res]) ∧ H b = some (.tup (r.args.map vS)) ∧ r.args ≠ [] ∧ r.args.length ≤ 50 ∧ ∀ a ∈ r.args, a ∈ sort3 tl) (fun R kk => ?_) ?_ | walk_at "w1")
    · refine use_takeP hp (by decide) (by decide) fun x H1 px1 x0 x1 => ?_
      walk_at "w"
      by_cases hx : x = 0
      · rw [if_pos (decide_eq_true hx)]
        have la1 := la.px hp px1
        have ew1 := la1.wd.w
        walk_at "w"
        rename_i t7 ht7
        have s7 : Same H1 (upd H1 t7 (.tup [.int 3, .int 8, .int 11, .int 14, .int 15, .int 16, .int 17])) := same_of (Same.refl _) ht7
        have e7 : upd H1 t7 (.tup [.int 3, .int 8, .int 11, .int 14, .int 15, .int 16, .int 17]) t7 = some (.tup (KS.map fun (k : Nat) => V.int (k : Int))) := upd_same
        generalize upd H1 t7 (.tup [.int 3, .int 8, .int 11, .int 14, .int 15, .int 16, .int 17]) = H2 at s7 e7 ⊢
        have hp2 := px1.2.same s7
        refine use_takeP hp2 (by decide) (by decide) fun y H3 px3 y0 y1 => ?_
        obtain ⟨m, rfl⟩ := Int.eq_ofNat_of_zero_le y0
        have hm : m < KS.length := by show m < 7; omega
        have e73 := px3.3 _ _ (tup_pool hp2 e7) e7
        have pxa : PX q H H3 := (px1.same s7).trans px3
        have la3 := la.px hp pxa
        have er3 := la3.wd.r
        refine Z.w_ixTH e73 (atI_nat (by rw [List.getElem?_map, List.getElem?_eq_getElem hm]; rfl)) ?_
        obtain ⟨a, r, b, c1, c2, c3, c4, c5, c6, c7⟩ := row KS[m] (List.getElem_mem hm)
        refine Z.w_ixH er3 (atI_nat (by rw [List.getElem?_map, c1]; rfl)) ?_
        walk_at "w"
        exact kk _ _ ⟨a, r, b, rfl, pxa, List.mem_of_getElem? c2, c3, c4, c5, c6, c7⟩
      · rw [if_neg fun z => hx (of_decide_eq_true z)]
        walk_at "w"
        exact kk _ _ ⟨a0, r0, b0, rfl, px1, List.mem_of_getElem? a2, a3, a4, a5, a6, a7⟩
    · rintro _ H1 ⟨a, r, b, rfl, px1, hr_, e1, e2, n0, nl, ns3⟩
      clear a1 a2 a3 a4 a5 a6 a7
      have e1' := px1.3 _ _ (tup_pool hp e1) e1
      have e2' := px1.3 _ _ (tup_pool hp e2) e2
      have hp1 := px1.2
      walk_at "w"
      intro D hD
      have hD0 : H D = none := fresh_px px1 hp hD
      have nDq : D ≠ q := fun z => by
        obtain ⟨o3, h3, _⟩ := hp1
        rw [z, h3] at hD
        cases hD
      refine lc_tup (xs := r.args.map vS) (fun i H' => PX q H1 H' ∧ ∃ ns : List Int, H' D = some (.lst (ns.map V.int)) ∧ ArgsOk gs (r.args.take i) ns) ⟨(PX.refl hp1).new hD, [], upd_same, rfl, fun j n a e _ => by simp at e⟩ (fun i H' _ q => .inl (.inl (q.1.3 _ _ (tup_pool hp1 e2') e2'))) ?_ ?_
      · rintro i x H' hx ⟨px, ns, eD, hao⟩
        rw [List.getElem?_map] at hx
        obtain ⟨l, hl, rfl⟩ := Option.map_eq_some_iff.mp hx
        have pxa := px1.trans px
        have lai := la.px hp pxa
        have etb := lai.tab.tb
        refine Z.w_gname (σ' := [some (.ref q), some (.ref X.wa), some (.ref X.x.tb), some (.ref X.o), some (.int (k : Int)), some (.ref a), none, some (vS l), none, none, none, none]) rfl ⟨rfl, ?_⟩
        walk_at "w"
        refine ⟨q, X.x.ts, gs, l, rfl, px.2, lai.tab.ts, by omega, h3 l (ns3 l (List.mem_of_getElem? hl)), fun H4 i4 g4 px4 f1 f2 => ?_⟩
        have hi := (List.getElem?_eq_some_iff.mp hl).1
        have hnl : ns.length ≤ 50 := by rw [hao.1, List.length_take]; omega
        refine ⟨_, px4.3 _ _ nDq eD, by rw [List.length_map]; exact Nat.lt_of_le_of_lt hnl (by decide), (px.trans px4).mutF hp1 hD, ns ++ [(i4 : Int) + 1], by rw [upd_same, List.map_append]; rfl, ?_⟩
        rw [List.take_add_one, hl]
        exact hao.snoc f1 f2
      · rintro H2 ⟨px2, ns, eD, hao⟩
        rw [List.length_map, List.take_length] at hao
        have pxa := px1.trans px2
        have la2 := la.px hp pxa
        have hp2 := px2.2
        have etb2 := la2.tab.tb
        have etn2 := la2.tab.tn
        have e1'' := px2.3 _ _ (tup_pool hp1 e1') e1'
        have e2'' := px2.3 _ _ (tup_pool hp1 e2') e2'
        have hnl : ns.length = r.args.length := hao.1
        have hap : 0 < r.args.length := List.length_pos_iff.mpr n0
        walk_at "w"
        intro D2 hD2
        refine lc_list (xs := ws.map V.ref) (fun i H' => Same H2 H' ∧ ∃ bs : List Addr, H' D2 = some (.lst (bs.map V.ref)) ∧ bs.length ≤ i ∧ ∀ c ∈ bs, ∃ (j : Nat) (g : GRow), ws[j]? = some c ∧ gs[j]? = some g ∧ g.op = CALL ∧ g.kv = .text (S r.name)) ⟨same_of (Same.refl _) hD2, [], upd_same, Nat.le_refl _, fun c hc => by cases hc⟩ (fun i H' _ q => .inl (.inl (q.1 _ _ etn2))) ?_ ?_
        · rintro i x H' hx ⟨sm, bs, eD2, hbl, hbs⟩
          rw [List.getElem?_map] at hx
          obtain ⟨c, hc, rfl⟩ := Option.map_eq_some_iff.mp hx
          have hi := (List.getElem?_eq_some_iff.mp hc).1
          have hig : i < gs.length := by rw [← la.tab.len]; exact hi
          have eg : gs[i]? = some gs[i] := List.getElem?_eq_getElem hig
          generalize gs[i] = g at eg
          have lai := la2.same sm
          obtain ⟨c', val, pa, u1, u2, u3, u4⟩ := lai.tab.row eg
          rw [hc] at u1
          obtain rfl := Option.some.inj u1
          have e1i := sm _ _ e1''
          refine Z.w_gname (σ' := [some (.ref q), some (.ref X.wa), some (.ref X.x.tb), some (.ref X.o), some (.int (k : Int)), some (.ref a), some (.ref D), none, none, some (.ref c), none, none]) rfl ⟨rfl, ?_⟩
          walk_at "w"
          by_cases hop : g.op = CALL
          · refine Z.w_iteT hop ?_
            obtain ⟨f, as, f1, f2, f3, f4⟩ := lai.wty i g eg hop
            have ev : val = .str (S f) := by
              rw [f1] at u3
              unfold ND.nk at u3
              exact u3
            subst ev
            walk_at "w"
            by_cases hf : f = r.name
            · refine Z.w_iteT hf ?_
              walk_at "w"
              refine ⟨_, eD2, by rw [List.length_map]; exact Nat.lt_of_le_of_lt (show bs.length ≤ 100 by have := la.tab.len; omega) (by decide), same_mut sm hD2, bs ++ [c], by rw [upd_same, List.map_append]; rfl, by rw [List.length_append]; exact Nat.succ_le_succ hbl, fun c' hc' => ?_⟩
              rcases List.mem_append.mp hc' with hc' | hc'
              · exact hbs c' hc'
              · rw [List.mem_singleton.mp hc']
                exact ⟨i, g, hc, eg, hop, by rw [f1, hf]⟩
            · refine Z.w_iteF hf ?_
              exact ⟨sm, bs, eD2, by omega, hbs⟩
          · refine Z.w_iteF hop ?_
            exact ⟨sm, bs, eD2, by omega, hbs⟩
        · rintro H3 ⟨s3, bs, eD2, hbl, hbs⟩
          have eD3 := s3 _ _ eD
          have pxb : PX q H H3 := pxa.same s3
          have e13 := s3 _ _ e1''
          have e23 := s3 _ _ e2''
          have hD20 : H D2 = none := fresh_px pxa hp hD2
          have hp3 := pxb.2
          have hbl2 : (bs.map V.ref).length = bs.length := List.length_map ..
          have hnl2 : (ns.map V.int).length = ns.length := List.length_map ..
          have hwl : ws.length ≤ 100 := by have := la.tab.len; omega
          have hbl3 : bs.length ≤ 100 := by rw [List.length_map] at hbl; omega
          have n2q : D2 ≠ q := fun z => by
            obtain ⟨o3, h3, _⟩ := hp2
            rw [z, h3] at hD2
            cases hD2
          repeat' (first | with_reducible refine seqIf (fun σ' H' => ∃ x10 x11 p ns, σ' = [some (.ref q), some (.ref X.wa), some (.ref X.x.tb), some (.ref X.o), some (.int (k : Int)), some (.ref a), some (.ref p), none, some (.ref D2), none, x10, x11] ∧ PX q H H' ∧ H' p = some (.lst (ns.map V.int)) ∧ ArgsOk gs r.args ns) (fun R kk => ?_) ?_ | walk_at "w1")
          · by_cases hb0 : (0 : Int) < ((bs.map V.ref).length : Int)
            · refine Z.w_iteT hb0 ?_
              rw [hbl2] at hb0
              walk_at "w"
              refine use_takeP hp3 (by decide) (by decide) fun x H4 px4 x0 x1 => ?_
              have pxc := pxb.trans px4
              have eD4 := px4.3 _ _ nDq eD3
              have eD24 := px4.3 _ _ n2q eD2
              have e14 := px4.3 _ _ (tup_pool hp3 e13) e13
              have hp4 := px4.2
              walk_at "w"
              by_cases hx : x = 0
              · refine Z.w_iteT hx ?_
                walk_at "w"
                refine use_takeP hp4 (by rw [hnl2]; omega) (by rw [hnl2]; omega) fun y H5 px5 y0 y1 => ?_
                obtain ⟨m, rfl⟩ := Int.eq_ofNat_of_zero_le y0
                rw [hnl2] at y1
                have hm : m < ns.length := by omega
                have hp5 := px5.2
                have eD5 := px5.3 _ _ nDq eD4
                have eD25 := px5.3 _ _ n2q eD24
                have em : ns[m]? = some ns[m] := List.getElem?_eq_getElem hm
                generalize ns[m] = xm at em
                walk_at "w"
                refine Z.w_ixH eD5 (atI_nat (by rw [List.getElem?_map, em]; rfl)) ?_
                walk_at "w"
                refine use_takeP hp5 (by rw [hbl2]; omega) (by rw [hbl2]; omega) fun z H6 px6 z0 z1 => ?_
                obtain ⟨m2, rfl⟩ := Int.eq_ofNat_of_zero_le z0
                rw [hbl2] at z1
                have hm2 : m2 < bs.length := by omega
                have eD26 := px6.3 _ _ n2q eD25
                have eb : bs[m2]? = some bs[m2] := List.getElem?_eq_getElem hm2
                obtain ⟨j, g, g1, g2, g3, g4⟩ := hbs _ (List.getElem_mem hm2)
                generalize bs[m2] = c at eb g1
                have pxd : PX q H H6 := (pxc.trans px5).trans px6
                have la6 := la.px hp pxd
                obtain ⟨c', val, pa, u1, u2, u3, u4⟩ := la6.tab.row g2
                rw [g1] at u1
                obtain rfl := Option.some.inj u1
                obtain ⟨f, as, f1, f2, f3, f4⟩ := la6.wty j g g2 g3
                have eas : as = r.args := by
                  have k1 := lookup_at la.wo.nd hr_
                  have ef : S f = S r.name := by
                    rw [f1] at g4
                    injection g4
                  rw [ef, k1] at f2
                  have f2 := Option.some.inj f2
                  injection f2 with f2 _
                  exact (map_S_inj f2).symm
                subst eas
                refine Z.w_ixH eD26 (atI_nat (by rw [List.getElem?_map, eb]; rfl)) ?_
                walk_at "w"
                intro l hl
                have hl0 : H l = none := fresh_px pxd hp hl
                have pxe : PX q H (upd H6 l (.lst (g.ns.map V.int))) := pxd.new hl
                have el : upd H6 l (.lst (g.ns.map V.int)) l = some (.lst (g.ns.map V.int)) := upd_same
                generalize upd H6 l (.lst (g.ns.map V.int)) = H7 at pxe el ⊢
                walk_at "w"
                have hmg : m < (g.ns.map V.int).length := by rw [List.length_map, f3, ← hnl]; exact hm
                refine Z.w_setLh el (Evl.ixN_nat hmg) (show _ = ((g.ns.set m xm).map V.int) by rw [List.map_set]) ?_
                walk_at "w"
                refine kk _ _ ⟨_, _, l, g.ns.set m xm, rfl, pxe.mutF hp hl0, upd_same, ArgsOk.set (⟨f3, f4⟩ : ArgsOk gs r.args g.ns) hao em⟩
              · refine Z.w_iteF hx ?_
                walk_at "w"
                exact kk _ _ ⟨_, _, D, ns, rfl, pxc, eD4, hao⟩
            · refine Z.w_iteF hb0 ?_
              walk_at "w"
              exact kk _ _ ⟨_, _, D, ns, rfl, pxb, eD3, hao⟩
          · rintro _ H4 ⟨x10, x11, p, ns, rfl, px4, ep, hao⟩
            have e14 := px4.3 _ _ (tup_pool hp e1) e1
            have la4 := la.px hp px4
            walk_at "w"
            refine ⟨p, _, rfl, .inl ⟨.inl (.inl ep), fun ta hta => ?_⟩⟩
            have s5 : Same H4 (upd H4 ta (.tup (ns.map V.int))) := same_of (Same.refl _) hta
            have et5 : upd H4 ta (.tup (ns.map V.int)) ta = some (.tup (ns.map V.int)) := upd_same
            generalize upd H4 ta (.tup (ns.map V.int)) = H5 at s5 et5 ⊢
            walk_at "w"
            rename_i td htd
            have s6 : Same H4 (upd H5 td (.tup [vS CALL, vS r.name, .ref ta])) := same_of s5 htd
            have e6 : upd H5 td (.tup [vS CALL, vS r.name, .ref ta]) td = some (.tup [vS CALL, vS r.name, .ref ta]) := upd_same
            have et6 : upd H5 td (.tup [vS CALL, vS r.name, .ref ta]) ta = some (.tup (ns.map V.int)) := upd_of htd et5
            have px6 := px4.same s6
            have la6 := la.px hp px6
            have hfit : Fit rows gs CALL (vS r.name) (.text (S r.name)) ns r.res := .inl ⟨rfl, r, hr_, rfl, rfl, rfl, hao.1, hao.2⟩
            refine ⟨X, ra, tl, rows, us, ws, gs, td, CALL, vS r.name, .text (S r.name), ns, ta, r.res, rfl, la6, e6, et6, by rw [hao.1]; exact nl, by unfold ND.nk; rfl, Nat.zero_le _, (by unfold kD; rfl), hfit, by omega, fun H7 us7 ws7 i7 c7 la7 => ?_⟩
            have cc : Ch (q :: X.s) H H7 := (Ch.px px6 (by simp)).trans (c7.sup fun b hb => List.mem_cons_of_mem _ hb)
            obtain ⟨o7, o71, o72⟩ := px6.2
            refine h H7 us7 ws7 _ i7 cc ⟨o7, c7 _ _ (la.nq hp).2.2.2.2.2.2.2 o71, o72⟩ la7 (putG_len _ _) (h3.put _)
end
end L

namespace L
open PySem PySem.Spec PyProof.Rows L2 Z M
open _root_.SX (S S_len S_inj)
def BK : List Nat := [0, 5, 9, 1, 6, 10, 2, 7]
def bsL (tl : List Nat) : List (List Nat) := [tl, WHOLE, RATIO, tl, WHOLE, RATIO, tl, WHOLE]
def GoodB (tl : List Nat) (rows : List WRow) : Prop := ∀ (i k : Nat) (s : List Nat), BK[i]? = some k → (bsL tl)[i]? = some s → ∃ r, rows[k]? = some r ∧ r.args = [] ∧ r.res = s
/-- a row to make, with its sort -/
def RB (rows : List WRow) (H : Hp) (a : Addr) (op s : List Nat) : Prop := ∃ (val : V) (kv : NestedKey) (pa : Addr), H a = some (.tup [.str (S op), val, .ref pa]) ∧ H pa = some (.tup []) ∧ ND.nk H kv val ∧ kv.depth ≤ 6 ∧ gdL (kD kv) = true ∧ ∀ gs, Fit rows gs op val kv [] s
theorem RB.keep {rows : List WRow} {H H' : Hp} {a : Addr} {op s : List Nat} (h : RB rows H a op s) (k : ∀ b ys, H b = some (.tup ys) → H' b = some (.tup ys)) : RB rows H' a op s := by
  obtain ⟨val, kv, pa, h1, h2, h3, h4, h5⟩ := h
  exact ⟨val, kv, pa, k _ _ h1, k _ _ h2, ND.nk_keep k _ _ h3, h4, h5⟩
theorem putG_call {tl : List Nat} {rows : List WRow} (wo : WOk tl rows) {gs : List GRow} (hw : Wty (rows.map WRow.fn) gs) {val : V} {kv : NestedKey} {ns : List Int} {s : List Nat} (h : Fit rows gs CALL val kv ns s) : ∃ g ∈ putG gs ⟨CALL, kv, ns, s⟩, g.so = s := by
  unfold putG
  by_cases q : (GRow.b ⟨CALL, kv, ns, s⟩).1 ∈ (gs.map GRow.b).map (·.1)
  · rw [if_pos q]
    obtain ⟨r, hr, e⟩ := List.mem_map.mp q
    obtain ⟨g, hg, rfl⟩ := List.mem_map.mp hr
    have e : nkey g.op g.kv g.ns = nkey CALL kv ns := e
    unfold nkey at e
    injection e with e
    injection e with e1 e
    injection e with e2 e
    injection e1 with e1
    have eop := S_inj e1
    obtain ⟨i, hi⟩ := List.mem_iff_getElem?.mp hg
    obtain ⟨f, as, f1, f2, _⟩ := hw i g hi eop
    rcases h with ⟨_, r, hr, rfl, rfl, rfl, _⟩ | ⟨z, _⟩ | ⟨z, _⟩
    · rw [e2] at f1
      injection f1 with f1
      rw [← f1, lookup_at wo.nd hr] at f2
      have f2 := Option.some.inj f2
      injection f2 with _ f2
      exact ⟨g, hg, (S_inj f2).symm⟩
    · exact absurd z (by decide)
    · exact absurd z (by decide)
  · rw [if_neg q]
    exact ⟨_, List.mem_append.mpr (.inr (List.mem_singleton.mpr rfl)), rfl⟩
theorem LAt.free {P : Program} {w : World} {CB CS p : Addr} {H : Hp} {X : LX} {ra : List Addr} {tl : List Nat} {rows : List WRow} {us vs : List Addr} {gs : List GRow} (h : LAt P w CB CS H X ra tl rows us vs gs) (hp : H p = none) : p ∉ X.s := fun z => by
  obtain ⟨kn, n1, _⟩ := h.bk.nums
  obtain ⟨kt, t1, _⟩ := h.tab.nums
  unfold LX.s at z
  have ndn : ∀ {d : Addr} {kvs : List (NestedKey × V)}, ND.ND P w H d kvs → H d ≠ none := fun {d kvs} n e => by
    rcases n with ⟨ts, _, e2, _⟩ | ⟨_, e2⟩
    · rw [e] at e2; cases e2
    · rw [e] at e2; cases e2
  rcases List.mem_cons.mp z with z | z
  · rw [z, h.bk.ln] at hp; cases hp
  rcases List.mem_cons.mp z with z | z
  · rw [z, h.bk.ls] at hp; cases hp
  rcases List.mem_cons.mp z with z | z
  · exact ndn n1 (z ▸ hp)
  rcases List.mem_cons.mp z with z | z
  · rw [z, h.tab.tn] at hp; cases hp
  rcases List.mem_cons.mp z with z | z
  · rw [z, h.tab.ts] at hp; cases hp
  · exact ndn t1 ((List.mem_singleton.mp z) ▸ hp)
section
variable {P : Program} {w : World} {K : PySem.W.Frag} {mg : Str → Option Value} {base : Heap}
def spBegun (P : Program) (w : World) (CB CS : Addr) : Sp := fun vs H Q _ => ∃ (X : LX) (ra : List Addr) (tl : List Nat) (rows : List WRow) (us ws : List Addr) (gs : List GRow) (q : Addr),
  vs = [.ref q, .ref X.wa, .ref X.x.tb, .ref X.o] ∧ PoolAt H q ∧ LAt P w CB CS H X ra tl rows us ws gs ∧ GoodB tl rows ∧ gs.length ≤ 50 ∧
  ∀ H' us' ws' gs', Ch (q :: X.s) H H' → PoolAt H' q → LAt P w CB CS H' X ra tl rows us' ws' gs' → gs'.length ≤ gs.length + 10 → Has3 tl gs' → Q (.bl true) H'
theorem ok_begun (T : Txt K mg) (W : Tw K mg T w) : FnOk P w K mg base CX0 6 T.f_begun T.fd_begun ["_law_pool_here", "_law_world_here", "_law_table", "_law_bank"] (spBegun P w T.C_Bank T.C_Signature) := by
  have G_take := ok_take (P := P) (w := w) (base := base) T
  have G_make := ok_makeL (P := P) (base := base) T W
  refine T.F_begun.ok sc_begun (fun vs H Q E h => ?_) (fun cdv A outer s H vs Q E hr h => ?_)
  · obtain ⟨X, ra, tl, rows, us, ws, gs, q, rfl, _⟩ := h
    rfl
  · obtain ⟨X, ra, tl, rows, us, ws, gs, q, rfl, hp, la, hgb, hgl, h⟩ := h
    have ew := la.wd.w
    have er := la.wd.r
    refine ⟨_, (pss_cons (ps_setLc (i := 4) (own := [("_law_k", 5)]) (g := gName 5) (tt := tYes) (by rfl) sc_begun.nd rfl rfl (sw_true rfl rfl rfl (by decide +kernel)) (pi_tup (pe_tup (pa_cons pe_int (pa_cons pe_int (pa_cons pe_int (pa_cons pe_int (pa_cons pe_int (pa_cons pe_int (pa_cons pe_int (pa_cons pe_int pa_nil)))))))))) (blkOk_by (own := [("_law_k", 5)]) (N := N_begun) (sc := defScope s_begun) (by decide +kernel)) (fun _ _ _ _ _ => pg_name (i := 5) sc_begun.nd rfl (Or.inl rfl)) (fun _ _ _ _ _ => pts_nil) (fun _ _ _ _ _ => (pe_tup (pa_cons (MT.pe_strS (l := [99, 97, 108, 108]) (by decide +kernel)) (pa_cons (pe_ix (show IxR _ (rIxT K) from ix_tup) (pe_ix (show IxR _ (rIxL K) from ix_list) (pe_ix (show IxR _ (rIxL K) from ix_list) (pv 1) pe_int (fun _ _ => rfl)) (pv 5) (fun _ _ => rfl)) pe_int (fun _ _ => rfl)) (pa_cons (pe_tup pa_nil) pa_nil))))))
 (pss_cons (ps_set (i := 4) sc_begun.nd rfl (.inl rfl) (pe_op op_cat (pv 4) (pe_lst (pa_cons (pe_tup (pa_cons (MT.pe_strS (l := [119, 104, 111, 108, 101]) (by decide +kernel)) (pa_cons (pe_op op_sub (pe_call G_take (hr.mono (by first | decide | omega)) (by rfl) T.g_take T.F_take.kp T.b_take .nil pass0 (pa_cons (pv 0) (pa_cons pe_int pa_nil))) pe_int) (pa_cons (pe_tup pa_nil) pa_nil)))) (pa_cons (pe_tup (pa_cons (MT.pe_strS (l := [114, 97, 116, 105, 111]) (by decide +kernel)) (pa_cons (pe_tup (pa_cons (pe_op op_sub (pe_op op_mul pe_int (pe_call G_take (hr.mono (by first | decide | omega)) (by rfl) T.g_take T.F_take.kp T.b_take .nil pass0 (pa_cons (pv 0) (pa_cons pe_int pa_nil)))) pe_int) (pa_cons pe_int pa_nil))) (pa_cons (pe_tup pa_nil) pa_nil)))) pa_nil)))))
 (pss_cons (ps_set (i := 4) sc_begun.nd rfl (.inl rfl) (pe_slice sl_list (pv 4) po_none (po_some (pe_op op_add pe_int (pe_call G_take (hr.mono (by first | decide | omega)) (by rfl) T.g_take T.F_take.kp T.b_take .nil pass0 (pa_cons (pv 0) (pa_cons pe_int pa_nil)))))))
 (pss_cons (ps_if (pt_cmpR op_eq (pe_call G_take (hr.mono (by first | decide | omega)) (by rfl) T.g_take T.F_take.kp T.b_take .nil pass0 (pa_cons (pv 0) (pa_cons pe_int pa_nil))) pe_int (nomark _)) (pss_one (ps_expr (pe_bm0 PySem.F.plainAttrs_list PySem.F.slot_list_reverse PySem.F.type_list_reverse mt_reverse (pv 4)))) pss_nil)
 (pss_cons (ps_for PassesOwn.never rfl (pi_list (pv 4)) (pg_name (i := 6) sc_begun.nd rfl (.inl rfl)) (pss_one (ps_if (pt_cmpR op_eq (pe_call G_make (hr.mono (by first | decide | omega)) (by rfl) T.g_make T.F_make.kp T.b_make .nil pass0 (pa_cons (pv 1) (pa_cons (pv 2) (pa_cons (pv 3) (pa_cons (pv 6) pa_nil))))) pe_int (nomark _)) (pss_one (ps_ret pe_bl)) pss_nil)))
 (pss_one (ps_ret pe_bl))))))), ?_⟩
    refine Z.w_start (σ' := [some (.ref q), some (.ref X.wa), some (.ref X.x.tb), some (.ref X.o), none, none, none]) rfl ?_
    walk_at "w"
    rename_i t ht
    have s1 : Same H (upd H t (.tup [.int 0, .int 5, .int 9, .int 1, .int 6, .int 10, .int 2, .int 7])) := same_of (Same.refl _) ht
    have e1 : upd H t (.tup [.int 0, .int 5, .int 9, .int 1, .int 6, .int 10, .int 2, .int 7]) t = some (.tup (BK.map fun (k : Nat) => V.int (k : Int))) := upd_same
    generalize upd H t (.tup [.int 0, .int 5, .int 9, .int 1, .int 6, .int 10, .int 2, .int 7]) = H1 at s1 e1 ⊢
    intro D hD
    have hD0 : H D = none := fresh_of1 s1 hD
    have nDq : D ≠ q := fun z => by
      obtain ⟨o3, h3, _⟩ := hp.same s1
      rw [z, h3] at hD
      cases hD
    refine lc_tup (xs := BK.map fun (k : Nat) => V.int (k : Int)) (fun i H' => Same H1 H' ∧ ∃ as : List Addr, H' D = some (.lst (as.map V.ref)) ∧ as.length = i ∧ ∀ (j : Nat) (a : Addr) (s : List Nat), as[j]? = some a → (bsL tl)[j]? = some s → RB rows H' a CALL s) ⟨same_of (Same.refl _) hD, [], upd_same, rfl, fun j a s e => by simp at e⟩ (fun i H' _ q => .inl (.inl (q.1 _ _ e1))) ?_ ?_
    · rintro i x H' hx ⟨sm, as, eD, hal, hrb⟩
      rw [List.getElem?_map] at hx
      obtain ⟨k, hk, rfl⟩ := Option.map_eq_some_iff.mp hx
      have hi8 : i < 8 := (List.getElem?_eq_some_iff.mp hk).1
      obtain ⟨s, hs⟩ : ∃ s, (bsL tl)[i]? = some s := ⟨(bsL tl)[i]'hi8, List.getElem?_eq_getElem hi8⟩
      obtain ⟨r, r1, r2, r3⟩ := hgb i k s hk hs
      have wd' := (la.wd.same s1).same sm
      have ew' := wd'.w
      have hkl : k < ra.length := by rw [la.wd.len]; exact (List.getElem?_eq_some_iff.mp r1).1
      obtain ⟨b, b1, b2⟩ := wd'.at_ k _ r (List.getElem?_eq_getElem hkl) r1
      have era : ra[k]? = some ra[k] := List.getElem?_eq_getElem hkl
      generalize ra[k] = ak at b1 era
      refine Z.w_gname (σ' := [some (.ref q), some (.ref X.wa), some (.ref X.x.tb), some (.ref X.o), none, some (.int (k : Int)), none]) rfl ⟨rfl, ?_⟩
      walk_at "w"
      refine Z.w_ixH wd'.r (atI_nat (by rw [List.getElem?_map, era]; rfl)) ?_
      walk_at "w"
      rename_i p0 hp0 p1 hp1
      have s2 : Same H' (upd (upd H' p0 (.tup [])) p1 (.tup [vS CALL, vS r.name, .ref p0])) := same_of (same_of (Same.refl _) hp0) hp1
      have g1 : upd (upd H' p0 (.tup [])) p1 (.tup [vS CALL, vS r.name, .ref p0]) p1 = some (.tup [vS CALL, vS r.name, .ref p0]) := upd_same
      have g0 : upd (upd H' p0 (.tup [])) p1 (.tup [vS CALL, vS r.name, .ref p0]) p0 = some (.tup []) := upd_of hp1 upd_same
      refine ⟨_, s2 _ _ eD, by rw [List.length_map, hal]; exact Nat.lt_trans hi8 (by decide), same_mut (sm.trans s2) hD, as ++ [p1], by rw [upd_same, List.map_append]; rfl, by rw [List.length_append, hal]; rfl, fun j a s' f1 f2 => ?_⟩
      have keep : ∀ b ys, upd (upd H' p0 (.tup [])) p1 (.tup [vS CALL, vS r.name, .ref p0]) b = some (.tup ys) → ∀ u, upd (upd (upd H' p0 (.tup [])) p1 (.tup [vS CALL, vS r.name, .ref p0])) D u b = some (.tup ys) := fun b ys e u => by
        rw [upd_ne (fun z => by rw [z, s2 _ _ eD] at e; cases e)]
        exact e
      by_cases hj : j < as.length
      · rw [List.getElem?_append_left hj] at f1
        exact (hrb j a s' f1 f2).keep fun b ys e => keep _ _ (s2 _ _ e) _
      · have hl := (List.getElem?_eq_some_iff.mp f1).1
        rw [List.length_append, List.length_singleton] at hl
        obtain rfl : j = as.length := by omega
        rw [List.getElem?_append_right (Nat.le_refl _), Nat.sub_self] at f1
        obtain rfl := Option.some.inj f1
        rw [hal, hs] at f2
        obtain rfl := Option.some.inj f2
        refine ⟨vS r.name, .text (S r.name), p0, keep _ _ g1 _, keep _ _ g0 _, by unfold ND.nk; rfl, Nat.zero_le _, (by unfold kD; rfl), fun gs' => .inl ⟨rfl, r, List.mem_of_getElem? r1, rfl, rfl, r3.symm, by rw [r2]; rfl, fun j n a z _ => by simp at z⟩⟩
    · rintro H2 ⟨s2, as, eD, hal, hrb⟩
      have hal : as.length = 8 := hal
      have s12 := s1.trans s2
      have hp2 := hp.same s12
      walk_at "w"
      refine use_takeP hp2 (by decide) (by decide) fun x H3 px3 x0 x1 => ?_
      have eD3 := px3.3 _ _ nDq eD
      have hp3 := px3.2
      walk_at "w"
      rename_i p0 h0 p1 h1
      have s4 : Same H3 (upd (upd H3 p0 (.tup [])) p1 (.tup [vS WHOLE, .int (x - 2), .ref p0])) := same_of (same_of (Same.refl _) h0) h1
      have g1 : upd (upd H3 p0 (.tup [])) p1 (.tup [vS WHOLE, .int (x - 2), .ref p0]) p1 = some (.tup [vS WHOLE, .int (x - 2), .ref p0]) := upd_same
      have g0 : upd (upd H3 p0 (.tup [])) p1 (.tup [vS WHOLE, .int (x - 2), .ref p0]) p0 = some (.tup []) := upd_of h1 upd_same
      generalize upd (upd H3 p0 (.tup [])) p1 (.tup [vS WHOLE, .int (x - 2), .ref p0]) = H4 at s4 g1 g0 ⊢
      have hp4 := hp3.same s4
      have rb8 : RB rows H4 p1 WHOLE WHOLE := ⟨.int (x - 2), .num (x - 2), p0, g1, g0, by unfold ND.nk; rfl, Nat.zero_le _, (by unfold kD; rfl), fun gs' => .inr (.inl ⟨rfl, rfl, rfl⟩)⟩
      refine use_takeP hp4 (by decide) (by decide) fun y H5 px5 y0 y1 => ?_
      have px35 : PX q H2 H5 := (px3.same s4).trans px5
      have eD5 := px35.3 _ _ nDq eD
      have hp5 := px5.2
      have rb8' := rb8.keep fun b ys e => px5.3 _ _ (tup_pool hp4 e) e
      walk_at "w"
      rename_i p2 h2 p3 h3 p4 h4 L hL
      have s6 : Same H5 (upd (upd (upd (upd H5 p2 (.tup [.int (2 * y - 1), .int 2])) p3 (.tup [])) p4 (.tup [vS RATIO, .ref p2, .ref p3])) L (.lst [.ref p1, .ref p4])) := same_of (same_of (same_of (same_of (Same.refl _) h2) h3) h4) hL
      have k4 : upd (upd (upd (upd H5 p2 (.tup [.int (2 * y - 1), .int 2])) p3 (.tup [])) p4 (.tup [vS RATIO, .ref p2, .ref p3])) L (.lst [.ref p1, .ref p4]) p4 = some (.tup [vS RATIO, .ref p2, .ref p3]) := upd_of hL upd_same
      have k3 : upd (upd (upd (upd H5 p2 (.tup [.int (2 * y - 1), .int 2])) p3 (.tup [])) p4 (.tup [vS RATIO, .ref p2, .ref p3])) L (.lst [.ref p1, .ref p4]) p3 = some (.tup []) := upd_of hL (upd_of h4 upd_same)
      have k2 : upd (upd (upd (upd H5 p2 (.tup [.int (2 * y - 1), .int 2])) p3 (.tup [])) p4 (.tup [vS RATIO, .ref p2, .ref p3])) L (.lst [.ref p1, .ref p4]) p2 = some (.tup [.int (2 * y - 1), .int 2]) := upd_of hL (upd_of h4 (upd_of h3 upd_same))
      have kL : upd (upd (upd (upd H5 p2 (.tup [.int (2 * y - 1), .int 2])) p3 (.tup [])) p4 (.tup [vS RATIO, .ref p2, .ref p3])) L (.lst [.ref p1, .ref p4]) L = some (.lst ([p1, p4].map V.ref)) := upd_same
      generalize upd (upd (upd (upd H5 p2 (.tup [.int (2 * y - 1), .int 2])) p3 (.tup [])) p4 (.tup [vS RATIO, .ref p2, .ref p3])) L (.lst [.ref p1, .ref p4]) = H6 at s6 k4 k3 k2 kL ⊢
      have rb9 : RB rows H6 p4 RATIO RATIO := ⟨.ref p2, .tup [.num (2 * y - 1), .num 2], p3, k4, k3, by
        unfold ND.nk
        refine ⟨p2, _, rfl, k2, ?_⟩
        unfold ND.nks
        refine ⟨_, _, rfl, (by unfold ND.nk; rfl), ?_⟩
        unfold ND.nks
        refine ⟨_, _, rfl, (by unfold ND.nk; rfl), ?_⟩
        unfold ND.nks
        rfl, by simp [NestedKey.depth, NestedKey.depthAll], (by simp [kD, kDs, gdL, gdLs]), fun gs' => .inr (.inr ⟨rfl, rfl, rfl⟩)⟩
      have hp6 := hp5.same s6
      have px26 := px35.same s6
      refine w_catS (s6 _ _ eD5) kL (by rw [List.length_map, List.length_map, hal]; show 8 + 2 ≤ 1000; decide) fun c H7 s7 hc ec => ?_
      have px27 := px26.same s7
      have px7 : PX q H H7 := ((PX.refl hp).same s12).trans px27
      rw [← List.map_append] at ec
      have rbA : ∀ (j : Nat) (a : Addr) (s : List Nat), as[j]? = some a → (bsL tl)[j]? = some s → RB rows H7 a CALL s := fun j a s f1 f2 => (hrb j a s f1 f2).keep fun b ys e => px27.3 _ _ (tup_pool hp2 e) e
      have rbB : RB rows H7 p1 WHOLE WHOLE := rb8'.keep fun b ys e => s7 _ _ (s6 _ _ e)
      have rbC : RB rows H7 p4 RATIO RATIO := rb9.keep fun b ys e => s7 _ _ e
      have hc0 : H c = none := fresh_px (((PX.refl hp).same s12).trans px26) hp hc
      obtain ⟨M, eM, hM2, hM1', hM3⟩ : ∃ M : List (Addr × List Nat), as ++ [p1, p4] = M.map (·.1) ∧ M.length = 10 ∧ (∀ p ∈ M, ∃ op, RB rows H7 p.1 op p.2) ∧ ∀ s ∈ sort3 tl, ∃ p ∈ M.take 5, p.2 = s ∧ RB rows H7 p.1 CALL s := by
        have hz : (as ++ [p1, p4]).length = (bsL tl ++ [WHOLE, RATIO]).length := by rw [List.length_append, List.length_append, hal]; rfl
        refine ⟨(as ++ [p1, p4]).zip (bsL tl ++ [WHOLE, RATIO]), (List.map_fst_zip (Nat.le_of_eq hz)).symm, by rw [List.length_zip, ← hz, List.length_append, hal]; rfl, fun p hp => ?_, fun s hs => ?_⟩
        · obtain ⟨i, hi⟩ := List.mem_iff_getElem?.mp hp
          obtain ⟨f1, f2⟩ := List.getElem?_zip_eq_some.mp hi
          by_cases hi8 : i < 8
          · rw [List.getElem?_append_left (by rw [hal]; exact hi8)] at f1
            rw [List.getElem?_append_left hi8] at f2
            exact ⟨CALL, rbA i _ _ f1 f2⟩
          · rw [List.getElem?_append_right (by rw [hal]; omega), hal] at f1
            rw [List.getElem?_append_right (show 8 ≤ i by omega)] at f2
            have f2 : [WHOLE, RATIO][i - 8]? = some p.2 := f2
            have hl := (List.getElem?_eq_some_iff.mp f1).1
            have hl : i - 8 < 2 := hl
            by_cases h9 : i - 8 = 0
            · rw [h9] at f1 f2
              obtain rfl : p1 = p.1 := Option.some.inj f1
              rw [← (Option.some.inj f2 : WHOLE = p.2)]
              exact ⟨WHOLE, rbB⟩
            · have h9 : i - 8 = 1 := by omega
              rw [h9] at f1 f2
              obtain rfl : p4 = p.1 := Option.some.inj f1
              rw [← (Option.some.inj f2 : RATIO = p.2)]
              exact ⟨RATIO, rbC⟩
        · have key : ∀ i < 3, ∀ s, (bsL tl)[i]? = some s → ∃ p ∈ ((as ++ [p1, p4]).zip (bsL tl ++ [WHOLE, RATIO])).take 5, p.2 = s ∧ RB rows H7 p.1 CALL s := fun i hi s hs => by
            have hia : i < as.length := by rw [hal]; omega
            have ea : as[i]? = some as[i] := List.getElem?_eq_getElem hia
            refine ⟨(as[i], s), List.mem_of_getElem? (i := i) ?_, rfl, rbA i _ s ea hs⟩
            rw [List.getElem?_take, if_pos (by omega)]
            exact (List.getElem?_zip_eq_some (z := (as[i], s))).mpr ⟨by rw [List.getElem?_append_left hia]; exact ea, by rw [List.getElem?_append_left (show i < 8 by omega)]; exact hs⟩
          unfold sort3 at hs
          rcases List.mem_cons.mp hs with rfl | hs
          · exact key 0 (by decide) _ rfl
          rcases List.mem_cons.mp hs with rfl | hs
          · exact key 1 (by decide) _ rfl
          · rw [List.mem_singleton.mp hs]
            exact key 2 (by decide) _ rfl
      rw [eM] at ec
      have hp7 := px7.2
      have ncq : c ≠ q := fun z => by
        obtain ⟨o3, h3, _⟩ := hp6
        rw [z, h3] at hc
        cases hc
      walk_at "w"
      refine use_takeP hp7 (by decide) (by decide) fun z H8 px8 z0 z1 => ?_
      have ec8 := px8.3 _ _ ncq ec
      obtain ⟨m, rfl⟩ := Int.eq_ofNat_of_zero_le z0
      refine Z.w_rI0 ?_
      refine ⟨_, rfl, c, _, rfl, .inl (.inl ec8), fun ml hml => ?_⟩
      have hml0 : H ml = none := fresh_px (px7.trans px8) hp hml
      have hml7 : H7 ml = none := fresh_px px8 hp7 hml
      have nmq : ml ≠ q := fun z => by
        obtain ⟨o3, h3, _⟩ := px8.2
        rw [z, h3] at hml
        cases hml
      rw [show (5 : Int) + (m : Int) = ((5 + m : Nat) : Int) by omega, cut_to (by rw [List.length_map, List.length_map, hM2]; omega), ← List.map_take, ← List.map_take]
      have px9 : PX q H7 (upd H8 ml (.lst (((M.take (5 + m)).map (·.1)).map V.ref))) := px8.new hml
      have e9 : upd H8 ml (.lst (((M.take (5 + m)).map (·.1)).map V.ref)) ml = some (.lst (((M.take (5 + m)).map (·.1)).map V.ref)) := upd_same
      have hN1 : (M.take (5 + m)).length ≤ 10 := by rw [List.length_take]; omega
      have hN2 : ∀ p ∈ M.take (5 + m), ∃ op, RB rows H7 p.1 op p.2 := fun p hp => hM1' p (List.mem_of_mem_take hp)
      have hN3 : ∀ s ∈ sort3 tl, ∃ p ∈ M.take (5 + m), p.2 = s ∧ RB rows H7 p.1 CALL s := fun s hs => by
        obtain ⟨p, hp, e⟩ := hM3 s hs
        have : M.take 5 = (M.take (5 + m)).take 5 := by rw [List.take_take, Nat.min_eq_left (by omega)]
        rw [this] at hp
        exact ⟨p, List.mem_of_mem_take hp, e⟩
      generalize upd H8 ml (.lst (((M.take (5 + m)).map (·.1)).map V.ref)) = H9 at px9 e9 ⊢
      generalize M.take (5 + m) = N at e9 hN1 hN2 hN3 ⊢
      repeat' (first | with_reducible refine seqIf (fun σ' H' => σ' = [some (.ref q), some (.ref X.wa), some (.ref X.x.tb), some (.ref X.o), some (.ref ml), none, none] ∧ PX q H7 H' ∧ ∃ N : List (Addr × List Nat), H' ml = some (.lst ((N.map (·.1)).map V.ref)) ∧ N.length ≤ 10 ∧ (∀ p ∈ N, ∃ op, RB rows H7 p.1 op p.2) ∧ ∀ s ∈ sort3 tl, ∃ p ∈ N, p.2 = s ∧ RB rows H7 p.1 CALL s) (fun R kk => ?_) ?_ | walk_at "w1")
      · refine use_takeP px9.2 (by decide) (by decide) fun r H10 px10 r0 r1 => ?_
        have e10 := px10.3 _ _ nmq e9
        have pxx := px9.trans px10
        walk_at "w"
        by_cases hr0 : r = 0
        · refine Z.w_iteT hr0 ?_
          walk_at "w"
          refine Z.w_bm0 ?_
          walk_at "w"
          refine Z.w_tyL e10 ?_
          refine Z.w_rev e10 ?_
          walk_at "w"
          refine kk _ _ ⟨rfl, pxx.mutF hp7 hml7, N.reverse, by rw [upd_same, List.map_reverse, List.map_reverse], by rw [List.length_reverse]; exact hN1, fun p hp => hN2 p (List.mem_reverse.mp hp), fun s hs => ?_⟩
          obtain ⟨p, f1, f2⟩ := hN3 s hs
          exact ⟨p, List.mem_reverse.mpr f1, f2⟩
        · refine Z.w_iteF hr0 ?_
          walk_at "w"
          exact kk _ _ ⟨rfl, pxx, N, e10, hN1, hN2, hN3⟩
      · rintro _ H10 ⟨rfl, px10, N, e10, hN1, hN2, hN3⟩
        have px010 : PX q H H10 := px7.trans px10
        have la10 := la.px hp px010
        have hms : ml ∉ X.s := la.free hml0
        have hqs : q ∉ X.s := (la.nq hp).2.2.2.2.2.2.2
        walk_at "w"
        refine for_list (xs := (N.map (·.1)).map V.ref) (fun i σ' H' => ∃ x5 x6 us' ws' gs', σ' = [some (.ref q), some (.ref X.wa), some (.ref X.x.tb), some (.ref X.o), some (.ref ml), x5, x6] ∧ Ch X.s H10 H' ∧ LAt P w T.C_Bank T.C_Signature H' X ra tl rows us' ws' gs' ∧ gs'.length ≤ gs.length + i ∧ ∀ p ∈ N.take i, RB rows H7 p.1 CALL p.2 → ∃ g ∈ gs', g.so = p.2)
          ⟨_, _, us, ws, gs, rfl, Ch.refl _ _, la10, Nat.le_refl _, fun p hp => by simp at hp⟩ (fun i σ' H' _ ⟨_, _, _, _, _, _, c, _⟩ => .inl (.inl (c _ _ hms e10))) ?_ ?_
        · rintro i x σ' H' hx ⟨x5, x6, us', ws', gs', rfl, c1, la1, hl1, hh1⟩
          rw [List.getElem?_map, List.getElem?_map] at hx
          obtain ⟨a, ha, rfl⟩ := Option.map_eq_some_iff.mp hx
          obtain ⟨p, hpN, rfl⟩ := Option.map_eq_some_iff.mp ha
          have hi := (List.getElem?_eq_some_iff.mp hpN).1
          obtain ⟨op, rb, hop⟩ : ∃ op, RB rows H7 p.1 op p.2 ∧ (RB rows H7 p.1 CALL p.2 → op = CALL) := by
            by_cases hc : RB rows H7 p.1 CALL p.2
            · exact ⟨CALL, hc, fun _ => rfl⟩
            · obtain ⟨op, h⟩ := hN2 p (List.mem_of_getElem? hpN)
              exact ⟨op, h, fun z => absurd z hc⟩
          obtain ⟨val, kv, pa, b1, b2, b3, b4, b4g, b5⟩ := (rb.keep fun b ys e => px10.3 _ _ (tup_pool hp7 e) e).keep fun b ys e => c1.tup la10.nt e
          refine Z.w_gname (σ' := [some (.ref q), some (.ref X.wa), some (.ref X.x.tb), some (.ref X.o), some (.ref ml), x5, some (.ref p.1)]) rfl ?_
          walk_at "w"
          refine ⟨X, ra, tl, rows, us', ws', gs', p.1, op, val, kv, [], pa, p.2, rfl, la1, b1, b2, Nat.zero_le _, b3, b4, b4g, b5 gs', by omega, fun H11 us2 ws2 i2 c2 la2 => ?_⟩
          walk_at "w"
          refine ⟨_, _, us2, ws2, _, rfl, c1.trans c2, la2, Nat.le_trans (putG_len _ _) (by omega), fun p' hp' hrb => ?_⟩
          rw [List.take_add_one, hpN] at hp'
          rcases List.mem_append.mp hp' with hp' | hp'
          · obtain ⟨g, g1, g2⟩ := hh1 p' hp' hrb
            obtain ⟨j, hj⟩ := List.mem_iff_getElem?.mp g1
            exact ⟨g, List.mem_of_getElem? (putG_get hj), g2⟩
          · have hp' : p' ∈ [p] := hp'
            obtain rfl := List.mem_singleton.mp hp'
            obtain rfl := hop hrb
            exact putG_call la.wo la1.wty (b5 gs')
        · rintro σ' H' ⟨x5, x6, us', ws', gs', rfl, c1, la1, hl1, hh1⟩
          rw [List.length_map, List.length_map] at hl1 hh1
          rw [List.take_length] at hh1
          walk_at "w"
          obtain ⟨o7, o71, o72⟩ := px010.2
          refine h H' us' ws' gs' ((Ch.px px010 (by simp)).trans (c1.sup fun b hb => List.mem_cons_of_mem _ hb)) ⟨o7, c1 _ _ hqs o71, o72⟩ la1 (by omega) fun s hs => ?_
          obtain ⟨p, f1, f2, f3⟩ := hN3 s hs
          obtain ⟨g, g1, g2⟩ := hh1 p f1 (f2 ▸ f3)
          exact ⟨g, g1, g2.trans f2⟩
end
end L

namespace ND
open PySem PySem.Spec PyProof.Rows L2
/-! a written dict with nested keys -/
def allT (acc ts : List TK) : List TK := ts.foldl (fun a t => putT a t.1 t.2.1 t.2.2) acc
theorem kv_all : ∀ (ts acc : List TK), kv (allT acc ts) = ts.foldl (fun a t => putK a t.1 t.2.2) (kv acc)
  | [], _ => rfl
  | t :: ts, acc => by
    show kv (allT (putT acc t.1 t.2.1 t.2.2) ts) = _
    rw [kv_all, kv_put]
    rfl
theorem all_len : ∀ (ts acc : List TK), (allT acc ts).length ≤ acc.length + ts.length
  | [], _ => Nat.le_refl _
  | t :: ts, acc => by
    have h1 := all_len ts (putT acc t.1 t.2.1 t.2.2)
    have h2 := length_putK (kv acc) t.1 t.2.2
    rw [← kv_put acc t.1 t.2.1 t.2.2, kv_len, kv_len] at h2
    show (allT (putT acc t.1 t.2.1 t.2.2) ts).length ≤ _
    rw [List.length_cons]
    omega
theorem all_pair {ts : List TK} {qs : List (NestedKey × Addr × Value)} (r : Paired R3 ts qs) : ∀ {acc : List TK} {xs : List (NestedKey × Addr × Value)}, Paired R3 acc xs → Paired R3 (allT acc ts) (storedAllH xs qs) := by
  induction r with
  | nil => exact fun h => h
  | @cons p q ps qs h t ih =>
    intro acc xs h0
    have h1 := tput h0 p.1 p.2.1 h.2.2
    rw [h.1, h.2.1] at h1
    have h2 := ih h1
    show Paired R3 (allT (putT acc p.1 p.2.1 p.2.2) ps) _
    rw [h.1, h.2.1]
    exact h2
def Gd (H : Hp) (t : TK) : Prop := nk H t.1 (.ref t.2.1) ∧ t.1.depth ≤ 8
theorem put_gd {H : Hp} {ts : List TK} {k : NestedKey} {b : Addr} {v : V} (al : ∀ t ∈ ts, Gd H t) (hk : Gd H (k, b, v)) : ∀ t ∈ putT ts k b v, Gd H t := fun t m => by
  unfold putT at m
  by_cases q : (valV (kv ts) k).isSome = true
  · rw [if_pos q] at m
    obtain ⟨t0, m0, rfl⟩ := List.mem_map.mp m
    obtain ⟨g1, g2⟩ := al t0 m0
    by_cases q2 : t0.1 = k
    · rw [if_pos q2]
      exact ⟨g1, g2⟩
    · rw [if_neg q2]
      exact ⟨g1, g2⟩
  · rw [if_neg q] at m
    rcases List.mem_append.mp m with m | m
    · exact al t m
    · rw [List.mem_singleton.mp m]
      exact hk
theorem all_gd {H : Hp} : ∀ (ts acc : List TK), (∀ t ∈ acc, Gd H t) → (∀ t ∈ ts, Gd H t) → ∀ t ∈ allT acc ts, Gd H t
  | [], _, h, _ => h
  | t :: ts, acc, h, g => all_gd ts (putT acc t.1 t.2.1 t.2.2) (put_gd h (g t List.mem_cons_self)) fun u hu => g u (List.mem_cons_of_mem _ hu)
theorem carriesN {P : Program} {w : World} {H : Hp} {h : Heap} (ok : HOk P w H h) : ∀ {ts : List TK} {ws : List (Value × Value)}, VV (ts.map fun t => (V.ref t.2.1, t.2.2)) ws → (∀ t ∈ ts, Gd H t) → ∃ qs, CarriesH (nestedKind P w) h ws qs ∧ Paired R3 ts qs
  | [], _, r, _ => by
    rw [List.map_nil] at r
    cases r
    exact ⟨[], True.intro, .nil⟩
  | p :: ts, _, r, g => by
    rw [List.map_cons] at r
    cases r with
    | @cons a b as bs hh t =>
      obtain ⟨qs, c, q⟩ := carriesN ok t fun u hu => g u (List.mem_cons_of_mem _ hu)
      obtain ⟨b1, b2⟩ := b
      obtain ⟨g1, g2⟩ := g p List.mem_cons_self
      have e : b1 = Value.ref p.2.1 := hh.1
      subst e
      exact ⟨(p.1, p.2.1, b2) :: qs, ⟨rfl, rfl, key_is ok g1 g2, c⟩, .cons ⟨rfl, rfl, hh.2⟩ q⟩
/-- {k: v, ..}; the new dict stands empty while the pairs are made -/
def tDispN (P : Program) (w : World) (trs : List (TE × TE)) : TE := fun σ H Q => ∀ p, H p = none → tPairs trs σ (upd H p (.dK [])) fun ps H2 => H2 p = some (.dK []) ∧ ∃ ts : List TK, ps = ts.map (fun t => (V.ref t.2.1, t.2.2)) ∧ ts.length ≤ 15 ∧ (∀ t ∈ ts, Gd H2 t) ∧
  ∀ o, ND P w (upd H2 p o) p (ts.foldl (fun a t => putK a t.1 t.2.2) []) → Q (.ref p) (upd H2 p o)
theorem pe_dispN {X : Cx} {pos : Pos} {keys : List (Option Expr)} {values : List Expr} {trs : List (TE × TE)} (hu : X.A.units + 9 < cLine) (h : PPs X pos keys values trs) (hall : keys.all (·.isSome) = true) (hl : keys.length = values.length) (h0 : keys ≠ [])
    (h15 : keys.length ≤ 15) : PE X (.Dict keys values pos) (tDispN X.prog X.w trs) := by
  refine ⟨fun pins s σ H Q I q => ?_⟩
  have hn := I.hok.fresh (Nat.le_refl s.heap.objs.size)
  have I1 := I.laid (a := s.heap.objs.size) (o := .dK []) (h' := s.heap.push { cls := .type "dict", data := .dict #[] }) (t' := s.toks) (fun _ _ q => Heap.get?_push_of_some _ q) (Nat.le_refl _) (dk_empty s.heap I.big)
  have hz := pairTrees_length keys values X.env pos hall hl
  have hp0 : pairTrees keys values X.env pos ≠ [] := fun he => by
    rw [he] at hz
    exact h0 (List.length_eq_zero_iff.mp hz.symm)
  have hu8 : (nestedKind X.prog X.w).room X.A := by
    show X.A.units + 8 < cLine
    omega
  rw [arm_eval_Dict, zip_pairTrees keys values X.env pos hall hl, dictDisplay_pairs _ hp0 (by omega)]
  refine wpAny_bind (wpAny_standAt (wpAny_bind (wpAny_subDictH (knd := nestedKind X.prog X.w) hu8 (by omega) (thn (h.run pins _ σ _ _ I1 (q _ hn)) fun ws s2 ⟨ps, H2, I2, rel, e, ts, ep, lk, gd, q2⟩ => ?_))))
  subst ep
  obtain ⟨qs, c, rk⟩ := carriesN (P := X.prog) (w := X.w) I2.hok rel gd
  have n0 : ND X.prog X.w H2 s.heap.objs.size [] := .inr ⟨rfl, e⟩
  obtain ⟨z, hm, ts0, xs0, e0, rel0, al0, dd⟩ := nd_of I2.hok n0
  have hts0 : ts0 = [] := by
    have := congrArg List.length e0
    rw [kv_len] at this
    exact List.length_eq_zero_iff.mp this
  subst hts0
  cases rel0
  refine ⟨qs, c, dd, fun h' tk dd' hs => ?_⟩
  refine wpAny_pure ⟨.ref s.heap.objs.size, upd H2 s.heap.objs.size (NDo X.prog X.w s.heap.objs.size (allT [] ts)), ?_, rfl, q2 _ ?_⟩
  · obtain ⟨ob, es, ep, hq, h2, h3, h4, _, h5⟩ := dd'
    refine d_write I2 (by rw [e]; exact True.intro) hs ⟨ob, hq⟩ ⟨⟨?_, hm, _, all_pair rk .nil, ob, es, ep, hq, h2, h3, h4, h5⟩, ⟨ob, hq⟩, fun h1 h2 x st => ?_⟩
    · have := all_len ts []
      rw [List.length_nil] at this
      rw [sizeLine_eq]
      omega
    · obtain ⟨z1, z2, xs2, r2, o, es2, ep2, g1, g2⟩ := x
      exact ⟨z1, z2, xs2, r2, o, es2, ep2, st _ g1, g2⟩
  · have ht : ∀ c ys, H2 c = some (.tup ys) → upd H2 s.heap.objs.size (NDo X.prog X.w s.heap.objs.size (allT [] ts)) c = some (.tup ys) := fun c ys ec => by
      rw [upd_ne (n0.not_tup ec)]
      exact ec
    refine .inl ⟨allT [] ts, kv_all ts [], upd_same, fun t m => ?_⟩
    obtain ⟨g1, g2⟩ := all_gd ts [] (fun t ht => nomatch ht) gd t m
    exact ⟨nk_keep ht _ _ g1, g2⟩
end ND

namespace L
open PySem PySem.Spec PyProof.Rows L2 Z M
open _root_.SX (S S_len S_inj)
/-! the drawn world is in order -/
def rowsOf (NM : List (List Nat)) (SG : List (List (List Nat) × List Nat)) : List WRow := (NM.zip SG).map fun p => ⟨p.1, p.2.1, p.2.2⟩
def sgOf (tl : List Nat) (as4 : List (List Nat)) (r4 : List Nat) : List (List (List Nat) × List Nat) := baseSig tl ++ [(as4, r4), ([WHOLE], WHOLE), ([tl, WHOLE], RATIO)]
theorem rows_eq {tl : List Nat} {names as4 : List (List Nat)} {n16 n17 n18 r4 : List Nat} (hl : names.length = 15) : baseRows tl names ++ [⟨n16, as4, r4⟩, ⟨n17, [WHOLE], WHOLE⟩, ⟨n18, [tl, WHOLE], RATIO⟩] = rowsOf (names ++ [n16, n17, n18]) (sgOf tl as4 r4) := by
  unfold rowsOf sgOf baseRows
  rw [List.zip_append (by rw [hl]; rfl), List.map_append]
  rfl
theorem rowsOf_len {NM : List (List Nat)} {SG : List (List (List Nat) × List Nat)} (h : NM.length = SG.length) : (rowsOf NM SG).length = SG.length := by
  unfold rowsOf
  rw [List.length_map, List.length_zip, h, Nat.min_self]
theorem rowsOf_at {NM : List (List Nat)} {SG : List (List (List Nat) × List Nat)} (h : NM.length = SG.length) {k : Nat} {s : List (List Nat) × List Nat} (e : SG[k]? = some s) : ∃ n, (rowsOf NM SG)[k]? = some ⟨n, s.1, s.2⟩ := by
  have hk : k < NM.length := by rw [h]; exact (List.getElem?_eq_some_iff.mp e).1
  refine ⟨NM[k], ?_⟩
  unfold rowsOf
  rw [List.getElem?_map, (List.getElem?_zip_eq_some (z := (NM[k], s))).mpr ⟨List.getElem?_eq_getElem hk, e⟩]
  rfl
theorem rowsOf_mem {NM : List (List Nat)} {SG : List (List (List Nat) × List Nat)} {r : WRow} (hr : r ∈ rowsOf NM SG) : (∃ k : Nat, NM[k]? = some r.name) ∧ (r.args, r.res) ∈ SG := by
  unfold rowsOf at hr
  obtain ⟨p, hp, rfl⟩ := List.mem_map.mp hr
  obtain ⟨k, hk⟩ := List.mem_iff_getElem?.mp hp
  obtain ⟨h1, h2⟩ := List.getElem?_zip_eq_some.mp hk
  exact ⟨⟨k, h1⟩, List.mem_of_getElem? h2⟩
theorem base_ok (tl : List Nat) : ∀ p ∈ baseSig tl, p.1.length ≤ 50 ∧ (∀ a ∈ p.1, a ∈ sort3 tl) ∧ p.2 ∈ sort4 tl := by
  intro p hp
  unfold baseSig at hp
  simp only [List.mem_cons, List.not_mem_nil, or_false] at hp
  rcases hp with rfl | rfl | rfl | rfl | rfl | rfl | rfl | rfl | rfl | rfl | rfl | rfl | rfl | rfl | rfl <;> (unfold sort3 sort4; refine ⟨by simp, by simp, by simp⟩)
theorem world_ok {tl : List Nat} {NM as4 : List (List Nat)} {r4 : List Nat} (ht : Wd0 0 tl) (hl : NM.length = 18) (hw : ∀ (k : Nat) (n : List Nat), NM[k]? = some n → Wd0 (k + 1) n) (h4 : as4.length = 4) (ha4 : ∀ a ∈ as4, a ∈ sort3 tl) (hr4 : r4 ∈ sort4 tl) :
    WOk tl (rowsOf NM (sgOf tl as4 r4)) ∧ GoodK tl (rowsOf NM (sgOf tl as4 r4)) ∧ GoodB tl (rowsOf NM (sgOf tl as4 r4)) ∧ (rowsOf NM (sgOf tl as4 r4)).length = 18 := by
  have hSG : NM.length = (sgOf tl as4 r4).length := by rw [hl]; rfl
  have hk18 : ∀ (k : Nat) (n : List Nat), NM[k]? = some n → k + 1 < 26 := fun k n e => by
    have := (List.getElem?_eq_some_iff.mp e).1
    omega
  have sg : ∀ p ∈ sgOf tl as4 r4, p.1.length ≤ 50 ∧ (∀ a ∈ p.1, a ∈ sort3 tl) ∧ p.2 ∈ sort4 tl := fun p hp => by
    unfold sgOf at hp
    rcases List.mem_append.mp hp with hp | hp
    · exact base_ok tl p hp
    rcases List.mem_cons.mp hp with rfl | hp
    · exact ⟨by show as4.length ≤ 50; omega, ha4, hr4⟩
    rcases List.mem_cons.mp hp with rfl | hp
    · unfold sort3 sort4; refine ⟨by simp, by simp, by simp⟩
    · rw [List.mem_singleton.mp hp]
      unfold sort3 sort4; refine ⟨by simp, by simp, by simp⟩
  refine ⟨⟨ht.name (by decide), Nat.le_trans ht.len (by decide), fun r hr => ?_, ?_, fun r hr => ?_, fun r hr => ?_⟩, fun k hk => ?_, fun i k s hi hs => ?_, by rw [rowsOf_len hSG]; rfl⟩
  · obtain ⟨⟨k, hk⟩, _⟩ := rowsOf_mem hr
    have hx := hw k _ hk
    refine ⟨hx.name (hk18 k _ hk), Nat.le_trans hx.len (by decide), fun e => ?_⟩
    rw [e] at hx
    exact absurd (Wd0.inj (hk18 k _ hk) (by decide) hx ht) (by omega)
  · have e : (rowsOf NM (sgOf tl as4 r4)).map (·.name) = NM := by
      unfold rowsOf
      rw [List.map_map]
      exact List.map_fst_zip (Nat.le_of_eq hSG)
    rw [e]
    refine List.pairwise_iff_getElem.mpr fun i j hi hj hij e => ?_
    have h1 := hw i _ (List.getElem?_eq_getElem hi)
    have h2 := hw j _ (List.getElem?_eq_getElem hj)
    rw [e] at h1
    exact absurd (Wd0.inj (by omega) (by omega) h1 h2) (by omega)
  · obtain ⟨_, hm⟩ := rowsOf_mem hr
    have := sg _ hm
    exact ⟨this.1, this.2.1⟩
  · obtain ⟨_, hm⟩ := rowsOf_mem hr
    exact (sg _ hm).2.2
  · have key : ∀ s : List (List Nat) × List Nat, (sgOf tl as4 r4)[k]? = some s → s.1 ≠ [] → ∃ r, (rowsOf NM (sgOf tl as4 r4))[k]? = some r ∧ r.args ≠ [] ∧ r.args.length ≤ 50 ∧ ∀ a ∈ r.args, a ∈ sort3 tl := fun s e n0 => by
      obtain ⟨n, hn⟩ := rowsOf_at hSG e
      have := sg s (List.mem_of_getElem? e)
      exact ⟨_, hn, n0, this.1, this.2.1⟩
    have h40 : as4 ≠ [] := fun z => by rw [z] at h4; cases h4
    unfold KS at hk
    simp only [List.mem_cons, List.not_mem_nil, or_false] at hk
    rcases hk with rfl | rfl | rfl | rfl | rfl | rfl | rfl
    · exact key ([tl], tl) rfl (by simp)
    · exact key ([WHOLE], WHOLE) rfl (by simp)
    · exact key ([RATIO], tl) rfl (by simp)
    · exact key ([tl, WHOLE], RATIO) rfl (by simp)
    · exact key (as4, r4) rfl h40
    · exact key ([WHOLE], WHOLE) rfl (by simp)
    · exact key ([tl, WHOLE], RATIO) rfl (by simp)
  · have key : ∀ s : List Nat, (sgOf tl as4 r4)[k]? = some ([], s) → ∃ r, (rowsOf NM (sgOf tl as4 r4))[k]? = some r ∧ r.args = [] ∧ r.res = s := fun s e => by
      obtain ⟨n, hn⟩ := rowsOf_at hSG e
      exact ⟨_, hn, rfl, rfl⟩
    match i, hi, hs with
    | 0, hi, hs => obtain rfl := Option.some.inj hi; obtain rfl := Option.some.inj hs; exact key _ rfl
    | 1, hi, hs => obtain rfl := Option.some.inj hi; obtain rfl := Option.some.inj hs; exact key _ rfl
    | 2, hi, hs => obtain rfl := Option.some.inj hi; obtain rfl := Option.some.inj hs; exact key _ rfl
    | 3, hi, hs => obtain rfl := Option.some.inj hi; obtain rfl := Option.some.inj hs; exact key _ rfl
    | 4, hi, hs => obtain rfl := Option.some.inj hi; obtain rfl := Option.some.inj hs; exact key _ rfl
    | 5, hi, hs => obtain rfl := Option.some.inj hi; obtain rfl := Option.some.inj hs; exact key _ rfl
    | 6, hi, hs => obtain rfl := Option.some.inj hi; obtain rfl := Option.some.inj hs; exact key _ rfl
    | 7, hi, hs => obtain rfl := Option.some.inj hi; obtain rfl := Option.some.inj hs; exact key _ rfl
    | n + 8, hi, hs => exact nomatch hi
/-! what stays of the first heap -/
theorem same_ch {S : List Addr} {H H1 H2 : Hp} (a : Same H H1) (c : Ch S H1 H2) (f : ∀ b ∈ S, H b = none) : Same H H2 := fun b x e => c b x (fun z => by rw [f b z] at e; cases e) (a b x e)
theorem same_px {q : Addr} {H H1 H2 : Hp} (a : Same H H1) (c : PX q H1 H2) (f : H q = none) : Same H H2 := same_ch (S := [q]) a (Ch.px c (List.mem_singleton.mpr rfl)) fun b hb => by rw [List.mem_singleton.mp hb]; exact f
theorem nd_some {P : Program} {w : World} {H : Hp} {a : Addr} {kvs : List (NestedKey × V)} (n : ND.ND P w H a kvs) : ∃ u, H a = some u := by
  rcases n with ⟨ts, _, e2, _⟩ | ⟨_, e2⟩
  · exact ⟨_, e2⟩
  · exact ⟨_, e2⟩
/-! the table at the start -/
def gs0 : List GRow := [⟨[116, 114, 117, 101], .none, [], TRUTH⟩, ⟨[102, 97, 108, 115, 101], .none, [], TRUTH⟩]
/-! a row of the table as data -/
theorem dat_ok {P : Program} {w : World} {CB CS : Addr} {H : Hp} {X : LX} {ra : List Addr} {tl : List Nat} {rows : List WRow} {us vs : List Addr} {gs : List GRow} (h : LAt P w CB CS H X ra tl rows us vs gs) : ∀ d ∈ gs.map (fun g => kD g.b.1), gdL d = true ∧ d.depth ≤ 8 := fun d hd => by
  obtain ⟨g, hg, rfl⟩ := List.mem_map.mp hd
  obtain ⟨i, hi⟩ := List.mem_iff_getElem?.mp hg
  have hv : i < vs.length := by rw [h.tab.len]; exact (List.getElem?_eq_some_iff.mp hi).1
  have hn := (h.tab.nk i g _ hi (List.getElem?_eq_getElem hv)).2
  refine ⟨?_, Nat.le_trans (kD_dep _) hn⟩
  have h1 := h.nsl g hg
  have h2 := h.kvg g hg
  have h3 : ∀ ns : List Int, gdLs (kDs (ns.map NestedKey.num)) = true := fun ns => by
    induction ns with
    | nil => rfl
    | cons n ns ih =>
      rw [List.map_cons]
      unfold kDs gdLs
      rw [ih]
      unfold kD gdL
      rfl
  have h4 : ∀ ns : List Int, (kDs (ns.map NestedKey.num)).length = ns.length := fun ns => by
    induction ns with
    | nil => rfl
    | cons n ns ih =>
      rw [List.map_cons]
      unfold kDs
      rw [List.length_cons, ih, List.length_cons]
  show gdL (kD (nkey g.op g.kv g.ns)) = true
  unfold nkey
  simp only [kD, kDs, gdL, gdLs, h2, h3, h4, Bool.and_true, List.length_cons, List.length_nil]
  simp
  omega
theorem dat_dp {K : PySem.W.Frag} {H : Hp} : ∀ {us : List Addr} {gs : List GRow}, us.length = gs.length → (∀ (i : Nat) (g : GRow) (a : Addr), gs[i]? = some g → us[i]? = some a → ND.nk H g.b.1 (.ref a)) → DpAll K H (us.map V.ref) (gs.map fun g => kD g.b.1)
  | [], [], _, _ => .nil
  | [], _ :: _, h, _ => by cases h
  | _ :: _, [], h, _ => by cases h
  | u :: us, g :: gs, h, f => .cons (nk_dp _ _ (f 0 g u rfl rfl)) (dat_dp (Nat.succ.inj h) fun i g' a e1 e2 => f (i + 1) g' a e1 e2)
end L

namespace L
open PySem PySem.Spec PyProof.Rows L2 Z M
open _root_.SX (S S_len S_inj)
section
variable {P : Program} {w : World} {K : PySem.W.Frag} {mg : Str → Option Value} {base : Heap}
def spLaw (K : PySem.W.Frag) : Sp := fun vs H Q _ => ∃ (a : Addr) (ns : List Int), vs = [.ref a] ∧ SqL K H a (ns.map V.int) ∧ ns.length ≤ 63 ∧ ∀ H', Q (.bl true) H'
theorem ok_law (T : Txt K mg) (W : Tw K mg T w) : FnOk P w K mg base CX0 12 T.f_law T.fd_law ["_law_script"] (spLaw K) := by
  have G_pool := ok_pool (P := P) (w := w) (base := base) T
  have G_take := ok_take (P := P) (w := w) (base := base) T
  have G_world := ok_world (P := P) (w := w) (base := base) T
  have G_wide := ok_wide (P := P) (w := w) (base := base) T
  have G_Signature_init := ok_sigInit (P := P) (w := w) (base := base) T
  have G_declare := ok_declare (P := P) (w := w) (base := base) T
  have G_Bank_init := ok_bkInit (P := P) (base := base) T W
  have G_Bank_len := ok_lenB (P := P) (w := w) (base := base) T
  have G_Bank_iter := ok_iterB (P := P) (w := w) (base := base) T
  have G_begun := ok_begun (P := P) (base := base) T W
  have G_called := ok_called (P := P) (base := base) T W
  have G_list := ok_list (P := P) (w := w) (base := base) T
  have G_pairs_told := ok_told (P := P) (w := w) (base := base) T
  have G_alike := ok_alikeL (P := P) (w := w) (base := base) T 8
  refine T.F_law.ok sc_law (fun vs H Q E h => ?_) (fun cdv A outer s H vs Q E hr h => ?_)
  · obtain ⟨a, ns, rfl, _⟩ := h
    rfl
  · obtain ⟨a, ns, rfl, hS, hn63, h⟩ := h
    have hn : ns.length ≤ 1000 := by omega
    refine ⟨_, (pss_cons (ps_set (i := 1) sc_law.nd rfl (.inl rfl) (pe_call G_world (hr.mono (by first | decide | omega)) (by rfl) T.g_world T.F_world.kp T.b_world .nil pass0 (pa_cons (pe_call G_pool (hr.mono (by first | decide | omega)) (by rfl) T.g_pool T.F_pool.kp T.b_pool .nil pass0 (pa_cons (pv 0) (pa_cons pe_int pa_nil))) pa_nil)))
 (pss_cons (ps_expr (pe_call G_wide (hr.mono (by first | decide | omega)) (by rfl) T.g_wide T.F_wide.kp T.b_wide .nil pass0 (pa_cons (pe_call G_pool (hr.mono (by first | decide | omega)) (by rfl) T.g_pool T.F_pool.kp T.b_pool .nil pass0 (pa_cons (pv 0) (pa_cons pe_int pa_nil))) (pa_cons (pv 1) pa_nil))))
 (pss_cons (ps_set (i := 2) sc_law.nd rfl (.inl rfl) (pe_make0 T.mk_Signature G_Signature_init (hr.mono (by first | decide | omega)) (by rfl) T.c_Signature T.b_Signature_init .nil pass0))
 (pss_cons (ps_expr (pe_call G_declare (hr.mono (by first | decide | omega)) (by rfl) T.g_declare T.F_declare.kp T.b_declare .nil pass0 (pa_cons (pv 1) (pa_cons (pv 2) pa_nil))))
 (pss_cons (ps_set (i := 3) sc_law.nd rfl (.inl rfl) (pe_make T.mk_Bank G_Bank_init (hr.mono (by first | decide | omega)) (by rfl) T.c_Bank T.b_Bank_init .nil pass0 (pa_cons (pv 2) pa_nil)))
 (pss_cons (ps_set (i := 4) sc_law.nd rfl (.inl rfl) (pe_lst (pa_cons (pe_tup (pa_cons (MT.pe_strS (l := [116, 114, 117, 101]) (by decide +kernel)) (pa_cons pe_non (pa_cons (pe_tup pa_nil) pa_nil)))) (pa_cons (pe_tup (pa_cons (MT.pe_strS (l := [102, 97, 108, 115, 101]) (by decide +kernel)) (pa_cons pe_non (pa_cons (pe_tup pa_nil) pa_nil)))) pa_nil))))
 (pss_cons (ps_set (i := 5) sc_law.nd rfl (.inl rfl) (pe_lst (pa_cons (pv 4) (pa_cons (pe_lst (pa_cons (MT.pe_strS (l := []) (by decide +kernel)) (pa_cons (MT.pe_strS (l := [116, 114, 117, 116, 104]) (by decide +kernel)) (pa_cons (MT.pe_strS (l := [116, 114, 117, 116, 104]) (by decide +kernel)) pa_nil)))) (pa_cons (ND.pe_dispN (ND.hu9_of hr) (pps_cons (pe_ix ix_list (pv 4) pe_int (fun _ _ => rfl)) pe_int (pps_cons (pe_ix ix_list (pv 4) pe_int (fun _ _ => rfl)) pe_int pps_nil)) (by rfl) (by rfl) (fun z => by cases z) (by decide)) pa_nil)))))
 (pss_cons (ps_if (pt_not (pt_val (pe_call G_begun (hr.mono (by first | decide | omega)) (by rfl) T.g_begun T.F_begun.kp T.b_begun .nil pass0 (pa_cons (pe_call G_pool (hr.mono (by first | decide | omega)) (by rfl) T.g_pool T.F_pool.kp T.b_pool .nil pass0 (pa_cons (pv 0) (pa_cons pe_int pa_nil))) (pa_cons (pv 1) (pa_cons (pv 5) (pa_cons (pv 3) pa_nil))))))) (pss_one (ps_ret pe_bl)) pss_nil)
 (pss_cons (ps_set (i := 6) sc_law.nd rfl (.inl rfl) (pe_call G_pool (hr.mono (by first | decide | omega)) (by rfl) T.g_pool T.F_pool.kp T.b_pool .nil pass0 (pa_cons (pv 0) (pa_cons pe_int pa_nil))))
 (pss_cons (ps_set (i := 7) sc_law.nd rfl (.inl rfl) (pe_ix ix_tup (pe_tup (pa_cons pe_int (pa_cons pe_int (pa_cons pe_int (pa_cons pe_int (pa_cons pe_int (pa_cons pe_int (pa_cons pe_int (pa_cons pe_int pa_nil))))))))) (pe_call G_take (hr.mono (by first | decide | omega)) (by rfl) T.g_take T.F_take.kp T.b_take .nil pass0 (pa_cons (pv 6) (pa_cons pe_int pa_nil))) (fun _ _ => rfl)))
 (pss_cons (ps_for PassesOwn.never rfl (pi_range1 (by rfl) T.m_range (pa_cons (pe_op op_add pe_int (pe_call G_take (hr.mono (by first | decide | omega)) (by rfl) T.g_take T.F_take.kp T.b_take .nil pass0 (pa_cons (pv 6) (pa_cons pe_int pa_nil)))) pa_nil)) (pg_name (i := 8) sc_law.nd rfl (.inl rfl)) (pss_one (ps_if (pt_cmpR op_eq (pe_call G_called (hr.mono (by first | decide | omega)) (by rfl) T.g_called T.F_called.kp T.b_called .nil pass0 (pa_cons (pv 6) (pa_cons (pv 1) (pa_cons (pv 5) (pa_cons (pv 3) (pa_cons (pv 7) pa_nil)))))) pe_int (nomark _)) (pss_one (ps_ret pe_bl)) pss_nil)))
 (pss_cons (ps_set (i := 9) sc_law.nd rfl (.inl rfl) (pe_call G_list (hr.mono (by first | decide | omega)) (by rfl) T.g_list T.F_list.kp T.b_list .nil pass0 (pa_cons (pe_call G_pool (hr.mono (by first | decide | omega)) (by rfl) T.g_pool T.F_pool.kp T.b_pool .nil pass0 (pa_cons (pv 0) (pa_cons pe_int pa_nil))) (pa_cons (pe_callB call_len_seq (by rfl) T.m_len (by decide +kernel) (pa_cons (pv 4) pa_nil)) pa_nil))))
 (pss_cons (ps_if (pt_not (pt_val (pe_call G_pairs_told (hr.mono (by first | decide | omega)) (by rfl) T.g_pairs_told T.F_pairs_told.kp T.b_pairs_told .nil pass0 (pa_cons (pv 5) (pa_cons (pv 3) (pa_cons (pv 9) pa_nil)))))) (pss_one (ps_ret pe_bl)) pss_nil)
 (pss_cons (ps_if (pt_not (pt_val (pe_call G_pairs_told (hr.mono (by first | decide | omega)) (by rfl) T.g_pairs_told T.F_pairs_told.kp T.b_pairs_told .nil pass0 (pa_cons (pv 5) (pa_cons (pv 3) (pa_cons (pe_lc (own := [("_law_n", 10)]) (g := gName 10) (tt := tYes) (by rfl) sc_law.nd (pi_range2 (by rfl) T.m_range (pa_cons pe_int (pa_cons (pe_op op_add (pe_callB call_len_seq (by rfl) T.m_len (by decide +kernel) (pa_cons (pv 4) pa_nil)) pe_int) pa_nil))) (blkOk_by (own := [("_law_n", 10)]) (N := N_law) (sc := defScope s_law) (by decide +kernel)) (fun _ _ _ _ _ => pg_name (i := 10) sc_law.nd rfl (Or.inl rfl)) (fun _ _ _ _ _ => pts_nil) (fun _ _ _ _ _ => (pv 10))) pa_nil)))))) (pss_one (ps_ret pe_bl)) pss_nil)
 (pss_cons (ps_if (PW.pt (pw_or (pt_not (pt_val (pe_call G_pairs_told (hr.mono (by first | decide | omega)) (by rfl) T.g_pairs_told T.F_pairs_told.kp T.b_pairs_told .nil pass0 (pa_cons (pv 5) (pa_cons (pv 3) (pa_cons (pe_lst pa_nil) pa_nil)))))) (pw_or1 (pt_not (pt_val (pe_call G_pairs_told (hr.mono (by first | decide | omega)) (by rfl) T.g_pairs_told T.F_pairs_told.kp T.b_pairs_told .nil pass0 (pa_cons (pv 5) (pa_cons (pv 3) (pa_cons (pv 9) pa_nil))))))))) (pss_one (ps_ret pe_bl)) pss_nil)
 (pss_one (ps_ret (pe_call G_alike (hr.mono (by first | decide | omega)) (by rfl) T.g_alike T.F_alike.kp T.b_alike .nil pass0 (pa_cons (pe_callTy (OWN.call_listIt T.it_Bank G_Bank_iter T.b_Bank_iter G_Bank_len T.b_Bank_len (hr.mono (by first | decide | omega)) hr.hd) (by rfl) T.m_list (by decide +kernel) (pa_cons (pv 3) pa_nil)) (pa_cons (pv 4) pa_nil)))))))))))))))))))), ?_⟩
    refine Z.w_start (σ' := [some (.ref a), none, none, none, none, none, none, none, none, none, none]) rfl ?_
    walk_at "w"
    refine ⟨a, ns, 0, rfl, hS, hn, by decide, by decide, fun q0 o0 fq0 hpo0 => ?_⟩
    have hp0 : PoolAt (upd H q0 o0) q0 := ⟨o0, upd_same, hpo0⟩
    have s1 : Same H (upd H q0 o0) := same_of (Same.refl _) fq0
    generalize upd H q0 o0 = H1 at hp0 s1 ⊢
    refine ⟨q0, rfl, hp0, fun H2 wa rl ra tl names px2 wt hl hw wd2 fwa frl => ?_⟩
    have s2 : Same H H2 := same_px s1 px2 fq0
    have hS2 : SqL K H2 a (ns.map V.int) := Same.seq s2 hS
    have frl0 : H rl = none := fresh_of1 s1 frl
    walk_at "w"
    refine ⟨a, ns, 1, rfl, hS2, hn, by decide, by decide, fun q1 o1 fq1 hpo1 => ?_⟩
    have hp1 : PoolAt (upd H2 q1 o1) q1 := ⟨o1, upd_same, hpo1⟩
    have s23 : Same H2 (upd H2 q1 o1) := same_of (Same.refl _) fq1
    generalize upd H2 q1 o1 = H3 at hp1 s23 ⊢
    have lenB : (baseRows tl names).length = 15 := by
      unfold baseRows
      rw [List.length_map, List.length_zip, hl]
      rfl
    walk_at "w"
    refine ⟨q1, wa, rl, ra, tl, _, rfl, hp1, wd2.same s23, by omega, fun H4 ra4 n16 n17 n18 as4 r4 c4 hp4 w16 w17 w18 hl4 has hr4 wd4 => ?_⟩
    have s4 : Same H H4 := same_ch (s2.trans s23) c4 fun b hb => by
      rcases List.mem_cons.mp hb with z | hb
      · rw [z]; exact fresh_of1 s2 fq1
      · rw [List.mem_singleton.mp hb]; exact frl0
    rw [rows_eq hl] at wd4
    have hNM : (names ++ [n16, n17, n18]).length = 18 := by rw [List.length_append, hl]; rfl
    have hWD : ∀ (k : Nat) (n : List Nat), (names ++ [n16, n17, n18])[k]? = some n → Wd0 (k + 1) n := fun k n e => by
      by_cases hk : k < 15
      · rw [List.getElem?_append_left (by rw [hl]; exact hk)] at e
        exact hw k n e
      · have hlt := (List.getElem?_eq_some_iff.mp e).1
        rw [List.getElem?_append_right (by rw [hl]; omega), hl] at e
        rcases (show k = 15 ∨ k = 16 ∨ k = 17 by omega) with rfl | rfl | rfl
        · obtain rfl := Option.some.inj e; exact w16
        · obtain rfl := Option.some.inj e; exact w17
        · obtain rfl := Option.some.inj e; exact w18
    obtain ⟨wok, gk, gb, hrl⟩ := world_ok wt hNM hWD hl4 has hr4
    generalize rowsOf (names ++ [n16, n17, n18]) (sgOf tl as4 r4) = rows at wd4 wok gk gb hrl
    clear px2 wd2 fwa hp0 s1 c4 hp4 hp1 s23
    walk_at "w"
    refine w_make ?_
    walk_at "w"
    intro sg dx1 fsg fdx1 ndx1
    have s4' : Same H4 (upd (upd H4 dx1 (.own sg)) sg (.ins T.C_Signature dx1 [])) := same_mut (same_of (Same.refl _) fdx1) fsg
    refine ⟨sg, dx1, rfl, upd_same, fun H5 tg c5 edx sg5 fds fdf => ⟨rfl, ?_⟩⟩
    have fds4 : H4 tg.ds = none := fresh_of1 s4' fds
    have fdf4 : H4 tg.df = none := fresh_of1 s4' fdf
    have s45 : Same H4 H5 := same_ch s4' c5 fun b hb => by rw [List.mem_singleton.mp hb]; exact fsg
    clear s4' c5 fds fdf
    walk_at "w"
    refine ⟨wa, rl, sg, ra4, tl, rows, tg, rfl, wd4.same s45, wok, by omega, sg5, fun H6 c6 sg6 => ?_⟩
    have s46 : Same H4 H6 := same_ch s45 c6 fun b hb => by
      rcases List.mem_cons.mp hb with z | hb
      · rw [z]; exact fds4
      · rw [List.mem_singleton.mp hb]; exact fdf4
    have s6 : Same H H6 := s4.trans s46
    have wd6 := wd4.same s46
    clear c6 s45 sg5
    walk_at "w"
    refine w_make ?_
    walk_at "w"
    intro o dx2 fo fdx2 ndx2
    have s6' : Same H6 (upd (upd H6 dx2 (.own o)) o (.ins T.C_Bank dx2 [])) := same_mut (same_of (Same.refl _) fdx2) fo
    refine ⟨o, dx2, sg, tg, [S tl], rows.map WRow.fn, rfl, upd_same, sg6.same s6', fun H7 t us c7 et bk7 fln fls fdn => ⟨rfl, ?_⟩⟩
    have fln6 : H6 t.ln = none := fresh_of1 s6' fln
    have fls6 : H6 t.ls = none := fresh_of1 s6' fls
    have fdn6 : H6 t.dn = none := fresh_of1 s6' fdn
    have s67 : Same H6 H7 := same_ch s6' c7 fun b hb => by rw [List.mem_singleton.mp hb]; exact fo
    clear s6' c7 fln fls fdn
    have s7 : Same H H7 := s6.trans s67
    have wd7 := wd6.same s67
    have sg7 := sg6.same s67
    walk_at "w"
    rename_i e1 he1 m1 hm1 e2 he2 m2 hm2 tn htn ts hts
    have s78 : Same H7 (upd (upd (upd (upd (upd (upd H7 e1 (.tup [])) m1 (.tup [vS [116, 114, 117, 101], .non, .ref e1])) e2 (.tup [])) m2 (.tup [vS [102, 97, 108, 115, 101], .non, .ref e2])) tn (.lst [.ref m1, .ref m2])) ts (.lst [vS [], vS TRUTH, vS TRUTH])) := same_of (same_of (same_of (same_of (same_of (same_of (Same.refl _) he1) hm1) he2) hm2) htn) hts
    have k1 : upd (upd (upd (upd (upd (upd H7 e1 (.tup [])) m1 (.tup [vS [116, 114, 117, 101], .non, .ref e1])) e2 (.tup [])) m2 (.tup [vS [102, 97, 108, 115, 101], .non, .ref e2])) tn (.lst [.ref m1, .ref m2])) ts (.lst [vS [], vS TRUTH, vS TRUTH]) e1 = some (.tup []) := upd_of hts (upd_of htn (upd_of hm2 (upd_of he2 (upd_of hm1 upd_same))))
    have k2 : upd (upd (upd (upd (upd (upd H7 e1 (.tup [])) m1 (.tup [vS [116, 114, 117, 101], .non, .ref e1])) e2 (.tup [])) m2 (.tup [vS [102, 97, 108, 115, 101], .non, .ref e2])) tn (.lst [.ref m1, .ref m2])) ts (.lst [vS [], vS TRUTH, vS TRUTH]) m1 = some (.tup [vS [116, 114, 117, 101], .non, .ref e1]) := upd_of hts (upd_of htn (upd_of hm2 (upd_of he2 upd_same)))
    have k3 : upd (upd (upd (upd (upd (upd H7 e1 (.tup [])) m1 (.tup [vS [116, 114, 117, 101], .non, .ref e1])) e2 (.tup [])) m2 (.tup [vS [102, 97, 108, 115, 101], .non, .ref e2])) tn (.lst [.ref m1, .ref m2])) ts (.lst [vS [], vS TRUTH, vS TRUTH]) e2 = some (.tup []) := upd_of hts (upd_of htn (upd_of hm2 upd_same))
    have k4 : upd (upd (upd (upd (upd (upd H7 e1 (.tup [])) m1 (.tup [vS [116, 114, 117, 101], .non, .ref e1])) e2 (.tup [])) m2 (.tup [vS [102, 97, 108, 115, 101], .non, .ref e2])) tn (.lst [.ref m1, .ref m2])) ts (.lst [vS [], vS TRUTH, vS TRUTH]) m2 = some (.tup [vS [102, 97, 108, 115, 101], .non, .ref e2]) := upd_of hts (upd_of htn upd_same)
    have k5 : upd (upd (upd (upd (upd (upd H7 e1 (.tup [])) m1 (.tup [vS [116, 114, 117, 101], .non, .ref e1])) e2 (.tup [])) m2 (.tup [vS [102, 97, 108, 115, 101], .non, .ref e2])) tn (.lst [.ref m1, .ref m2])) ts (.lst [vS [], vS TRUTH, vS TRUTH]) tn = some (.lst [.ref m1, .ref m2]) := upd_of hts upd_same
    have k6 : upd (upd (upd (upd (upd (upd H7 e1 (.tup [])) m1 (.tup [vS [116, 114, 117, 101], .non, .ref e1])) e2 (.tup [])) m2 (.tup [vS [102, 97, 108, 115, 101], .non, .ref e2])) tn (.lst [.ref m1, .ref m2])) ts (.lst [vS [], vS TRUTH, vS TRUTH]) ts = some (.lst [vS [], vS TRUTH, vS TRUTH]) := upd_same
    have ftn : H7 tn = none := fresh_of1 (same_of (same_of (same_of (same_of (Same.refl _) he1) hm1) he2) hm2) htn
    have fts : H7 ts = none := fresh_of1 (same_of (same_of (same_of (same_of (same_of (Same.refl _) he1) hm1) he2) hm2) htn) hts
    have nts : tn ≠ ts := fun z => by rw [← z, upd_same] at hts; cases hts
    generalize upd (upd (upd (upd (upd (upd H7 e1 (.tup [])) m1 (.tup [vS [116, 114, 117, 101], .non, .ref e1])) e2 (.tup [])) m2 (.tup [vS [102, 97, 108, 115, 101], .non, .ref e2])) tn (.lst [.ref m1, .ref m2])) ts (.lst [vS [], vS TRUTH, vS TRUTH]) = H8 at s78 k1 k2 k3 k4 k5 k6 ⊢
    intro d hd
    have fd : H7 d = none := fresh_of1 s78 hd
    have s89 : Same H8 (upd H8 d (.dK [])) := same_of (Same.refl _) hd
    have kd : upd H8 d (.dK []) d = some (.dK []) := upd_same
    generalize upd H8 d (.dK []) = H9 at s89 kd ⊢
    have k5' := s89 _ _ k5
    refine Z.w_op ?_
    walk_at "w"
    refine Z.w_op ?_
    walk_at "w"
    have g1 : ND.Gd H9 (nkey [116, 114, 117, 101] .none [], m1, V.int 1) := ⟨nk_node (ns := []) (s89 _ _ k2) (by unfold ND.nk; rfl) (s89 _ _ k1), dep_node (Nat.zero_le _)⟩
    have g2 : ND.Gd H9 (nkey [102, 97, 108, 115, 101] .none [], m2, V.int 2) := ⟨nk_node (ns := []) (s89 _ _ k4) (by unfold ND.nk; rfl) (s89 _ _ k3), dep_node (Nat.zero_le _)⟩
    refine ⟨kd, [(nkey [116, 114, 117, 101] .none [], m1, V.int 1), (nkey [102, 97, 108, 115, 101] .none [], m2, V.int 2)], rfl, (show 2 ≤ 15 by decide), fun u hu => ?_, fun od hnd => ?_⟩
    · rcases List.mem_cons.mp hu with rfl | hu
      · exact g1
      · rw [List.mem_singleton.mp hu]; exact g2
    have s9d : Same H7 (upd H9 d od) := same_mut (s78.trans s89) fd
    have n1d : tn ≠ d := ne_of_none k5 hd
    have n2d : ts ≠ d := ne_of_none k6 hd
    have a5 : upd H9 d od tn = some (.lst [.ref m1, .ref m2]) := by rw [upd_ne n1d]; exact k5'
    have a6 : upd H9 d od ts = some (.lst [vS [], vS TRUTH, vS TRUTH]) := by rw [upd_ne n2d]; exact s89 _ _ k6
    have a7 : ∀ b ys, H9 b = some (.tup ys) → upd H9 d od b = some (.tup ys) := fun b ys e => by
      rw [upd_ne (fun z => by rw [z, kd] at e; cases e)]
      exact e
    have g1' := ND.nk_keep a7 _ _ g1.1
    have g2' := ND.nk_keep a7 _ _ g2.1
    generalize upd H9 d od = H10 at s9d a5 a6 g1' g2' hnd ⊢
    walk_at "w"
    rename_i tb htb
    have s10 : Same H10 (upd H10 tb (.lst [.ref tn, .ref ts, .ref d])) := same_of (Same.refl _) htb
    have a8 : upd H10 tb (.lst [.ref tn, .ref ts, .ref d]) tb = some (.lst [.ref tn, .ref ts, .ref d]) := upd_same
    have ftb : H7 tb = none := fresh_of1 s9d htb
    generalize hH11 : upd H10 tb (.lst [.ref tn, .ref ts, .ref d]) = H11 at s10 a8 ⊢
    have s711 := s9d.trans s10
    have tab11 : TabAt P w H11 ⟨tb, tn, ts, d⟩ [m1, m2] gs0 := by
      refine ⟨a8, s10 _ _ a5, s10 _ _ a6, rfl, ⟨(ne_of_none a5 htb).symm, (ne_of_none a6 htb).symm, nts⟩, fun i g b f1 f2 => ?_, _, hnd.keep (fun u e => s10 _ _ e) (fun b ys e => s10 _ _ e), ?_, fun k => ?_⟩
      · match i, f1, f2 with
        | 0, f1, f2 => obtain rfl := Option.some.inj f1; obtain rfl := Option.some.inj f2; exact ⟨ND.nk_keep (fun b ys e => s10 _ _ e) _ _ g1', dep_node (Nat.zero_le _)⟩
        | 1, f1, f2 => obtain rfl := Option.some.inj f1; obtain rfl := Option.some.inj f2; exact ⟨ND.nk_keep (fun b ys e => s10 _ _ e) _ _ g2', dep_node (Nat.zero_le _)⟩
        | n + 2, f1, f2 => exact nomatch f1
      · show (putK (putK [] (nkey [116, 114, 117, 101] .none []) (V.int 1)) (nkey [102, 97, 108, 115, 101] .none []) (V.int 2)).length = 2
        rw [putK_new _ (by rw [valV_put, if_neg (key_ne (by decide))]; rfl), putK_new _ rfl]
        rfl
      · show valV (putK (putK [] (nkey [116, 114, 117, 101] .none []) (V.int 1)) (nkey [102, 97, 108, 115, 101] .none []) (V.int 2)) k = numOf ([] ++ [(nkey [116, 114, 117, 101] .none [], S TRUTH)] ++ [(nkey [102, 97, 108, 115, 101] .none [], S TRUTH)]) k
        rw [valV_put, valV_put, numOf_snoc (by show ¬ _ ∈ [nkey [116, 114, 117, 101] .none []]; rw [List.mem_singleton]; exact key_ne (by decide)), numOf_snoc (by simp)]
        rfl
    subst et
    obtain ⟨kn7, nd7, _⟩ := bk7.nums
    obtain ⟨u7, hu7⟩ := nd_some nd7
    obtain ⟨kss, hks, _⟩ := sg6.so
    obtain ⟨kff, hkf, _⟩ := sg6.fu
    have la11 : LAt P w T.C_Bank T.C_Signature H11 ⟨wa, rl, tg, o, t, ⟨tb, tn, ts, d⟩⟩ ra4 tl rows us [m1, m2] gs0 := by
      refine ⟨wd7.same s711, wok, by omega, sg7.same s711, bk7.same s711, tab11, fun i g hg hop => ?_, fun g hg => ?_, fun g hg => ?_, fun b hb => ?_, fun b hb => ?_, fun b hb => ?_, fun b hb => ?_⟩
      · match i, hg with
        | 0, hg => obtain rfl := Option.some.inj hg; exact absurd hop (by decide)
        | 1, hg => obtain rfl := Option.some.inj hg; exact absurd hop (by decide)
        | n + 2, hg => exact nomatch hg
      · rcases List.mem_cons.mp hg with rfl | hg
        · exact Nat.zero_le _
        · rw [List.mem_singleton.mp hg]; exact Nat.zero_le _
      · rcases List.mem_cons.mp hg with rfl | hg
        · unfold kD; rfl
        · rw [List.mem_singleton.mp hg]; unfold kD; rfl
      · rcases List.mem_cons.mp hb with z | hb
        · rw [z]; exact ⟨ne_of_none bk7.ln ftb, ne_of_none bk7.ln ftn, ne_of_none bk7.ln fts, ne_of_none bk7.ln fd⟩
        rcases List.mem_cons.mp hb with z | hb
        · rw [z]; exact ⟨ne_of_none bk7.ls ftb, ne_of_none bk7.ls ftn, ne_of_none bk7.ls fts, ne_of_none bk7.ls fd⟩
        · rw [List.mem_singleton.mp hb]; exact ⟨ne_of_none hu7 ftb, ne_of_none hu7 ftn, ne_of_none hu7 fts, ne_of_none hu7 fd⟩
      · unfold LX.s at hb
        simp only [List.mem_cons, List.not_mem_nil, or_false] at hb
        rcases hb with z | z | z | z | z | z <;> rw [z]
        · exact ⟨(ne_of_none wd6.w fln6).symm, (ne_of_none wd6.r fln6).symm⟩
        · exact ⟨(ne_of_none wd6.w fls6).symm, (ne_of_none wd6.r fls6).symm⟩
        · exact ⟨(ne_of_none wd6.w fdn6).symm, (ne_of_none wd6.r fdn6).symm⟩
        · exact ⟨(ne_of_none wd7.w ftn).symm, (ne_of_none wd7.r ftn).symm⟩
        · exact ⟨(ne_of_none wd7.w fts).symm, (ne_of_none wd7.r fts).symm⟩
        · exact ⟨(ne_of_none wd7.w fd).symm, (ne_of_none wd7.r fd).symm⟩
      · unfold LX.s at hb
        simp only [List.mem_cons, List.not_mem_nil, or_false] at hb
        rcases hb with z | z | z | z | z | z <;> rw [z]
        · exact ⟨(ne_of_none sg6.obj fln6).symm, (ne_of_none hks fln6).symm, (ne_of_none hkf fln6).symm⟩
        · exact ⟨(ne_of_none sg6.obj fls6).symm, (ne_of_none hks fls6).symm, (ne_of_none hkf fls6).symm⟩
        · exact ⟨(ne_of_none sg6.obj fdn6).symm, (ne_of_none hks fdn6).symm, (ne_of_none hkf fdn6).symm⟩
        · exact ⟨(ne_of_none sg7.obj ftn).symm, (ne_of_none (s67 _ _ hks) ftn).symm, (ne_of_none (s67 _ _ hkf) ftn).symm⟩
        · exact ⟨(ne_of_none sg7.obj fts).symm, (ne_of_none (s67 _ _ hks) fts).symm, (ne_of_none (s67 _ _ hkf) fts).symm⟩
        · exact ⟨(ne_of_none sg7.obj fd).symm, (ne_of_none (s67 _ _ hks) fd).symm, (ne_of_none (s67 _ _ hkf) fd).symm⟩
      · rcases List.mem_cons.mp hb with z | hb
        · rw [z]; exact (ne_of_none bk7.obj ftn).symm
        rcases List.mem_cons.mp hb with z | hb
        · rw [z]; exact (ne_of_none bk7.obj fts).symm
        · rw [List.mem_singleton.mp hb]; exact (ne_of_none bk7.obj fd).symm
    have s11 : Same H H11 := s7.trans s711
    have fX : ∀ b ∈ LX.s ⟨wa, rl, tg, o, t, ⟨tb, tn, ts, d⟩⟩, H b = none := fun b hb => by
      unfold LX.s at hb
      simp only [List.mem_cons, List.not_mem_nil, or_false] at hb
      rcases hb with z | z | z | z | z | z <;> rw [z]
      · exact fresh_of1 s6 fln6
      · exact fresh_of1 s6 fls6
      · exact fresh_of1 s6 fdn6
      · exact fresh_of1 s7 ftn
      · exact fresh_of1 s7 fts
      · exact fresh_of1 s7 fd
    clear hH11 tab11 s10 a8 a5 a6 g1' g2' hnd s9d g1 g2 a7 k5' kd s89 k1 k2 k3 k4 k5 k6 s78
    have hS11 : SqL K H11 a (ns.map V.int) := Same.seq s11 hS
    walk_at "w"
    refine ⟨a, ns, 2, rfl, hS11, hn, by decide, by decide, fun q2 o2 fq2 hpo2 => ?_⟩
    have hp12 : PoolAt (upd H11 q2 o2) q2 := ⟨o2, upd_same, hpo2⟩
    have s12 : Same H11 (upd H11 q2 o2) := same_of (Same.refl _) fq2
    generalize upd H11 q2 o2 = H12 at hp12 s12 ⊢
    walk_at "w"
    refine ⟨⟨wa, rl, tg, o, t, ⟨tb, tn, ts, d⟩⟩, ra4, tl, rows, us, [m1, m2], gs0, q2, rfl, hp12, la11.same s12, gb, (show 2 ≤ 50 by decide), fun H13 us13 ws13 gs13 c13 hp13 la13 hl13 h13 => ?_⟩
    have s13 : Same H H13 := same_ch (s11.trans s12) c13 fun b hb => by
      rcases List.mem_cons.mp hb with z | hb
      · rw [z]; exact fresh_of1 s11 fq2
      · exact fX b hb
    have hl13 : gs13.length ≤ 12 := hl13
    clear c13 hp13 hp12 s12 la11 hS11
    have hS13 : SqL K H13 a (ns.map V.int) := Same.seq s13 hS
    walk_at "w"
    refine ⟨a, ns, 3, rfl, hS13, hn, by decide, by decide, fun q3 o3 fq3 hpo3 => ?_⟩
    have fq30 : H q3 = none := fresh_of1 s13 fq3
    have hp14 : PoolAt (upd H13 q3 o3) q3 := ⟨o3, upd_same, hpo3⟩
    have s14 : Same H13 (upd H13 q3 o3) := same_of (Same.refl _) fq3
    generalize upd H13 q3 o3 = H14 at hp14 s14 ⊢
    have la14 := la13.same s14
    have s014 := s13.trans s14
    walk_at "w"
    rename_i t8 ht8
    have s15 : Same H14 (upd H14 t8 (.tup [.int 8, .int 15, .int 11, .int 14, .int 15, .int 3, .int 15, .int 14])) := same_of (Same.refl _) ht8
    have e15 : upd H14 t8 (.tup [.int 8, .int 15, .int 11, .int 14, .int 15, .int 3, .int 15, .int 14]) t8 = some (.tup ([8, 15, 11, 14, 15, 3, 15, 14].map fun (k : Nat) => V.int (k : Int))) := upd_same
    generalize upd H14 t8 (.tup [.int 8, .int 15, .int 11, .int 14, .int 15, .int 3, .int 15, .int 14]) = H15 at s15 e15 ⊢
    have hp15 := hp14.same s15
    refine use_takeP hp15 (by decide) (by decide) fun x H16 px16 x0 x1 => ?_
    obtain ⟨m, rfl⟩ := Int.eq_ofNat_of_zero_le x0
    have hm8 : m < [8, 15, 11, 14, 15, 3, 15, 14].length := by show m < 8; omega
    have e16 := px16.3 _ _ (tup_pool hp15 e15) e15
    refine Z.w_ixTH e16 (atI_nat (by rw [List.getElem?_map, List.getElem?_eq_getElem hm8]; rfl)) ?_
    have hk : [8, 15, 11, 14, 15, 3, 15, 14][m] ∈ KS := by
      have : ∀ k ∈ [8, 15, 11, 14, 15, 3, 15, 14], k ∈ KS := by decide
      exact this _ (List.getElem_mem hm8)
    generalize [8, 15, 11, 14, 15, 3, 15, 14][m] = k at hk ⊢
    have la16 := (la14.same s15).px hp15 px16
    have hp16 := px16.2
    have s016 : Same H H16 := same_px (s014.trans s15) px16 fq30
    clear e16 e15 la14 s15 s14 hp14 hp15 px16
    walk_at "w"
    refine use_takeP hp16 (by decide) (by decide) fun y H17 px17 y0 y1 => ?_
    have la17 := la16.px hp16 px17
    have hp17 := px17.2
    have s017 : Same H H17 := same_px s016 px17 fq30
    walk_at "w"
    refine ⟨by omega, by omega, ?_⟩
    refine for_range (lo := 0) (n := _) (fun i σ' H' => ∃ v8 us' ws' gs', σ' = [some (.ref a), some (.ref wa), some (.ref t.sg), some (.ref o), some (.ref tn), some (.ref tb), some (.ref q3), some (.int (k : Int)), v8, none, none] ∧ Same H H' ∧ PoolAt H' q3 ∧ LAt P w T.C_Bank T.C_Signature H' ⟨wa, rl, tg, o, t, ⟨tb, tn, ts, d⟩⟩ ra4 tl rows us' ws' gs' ∧ gs'.length ≤ 12 + i ∧ Has3 tl gs') ⟨none, us13, ws13, gs13, rfl, s017, hp17, la17, hl13, h13⟩ ?_ ?_
    · rintro i σ' H' hi ⟨v8, us', ws', gs', rfl, sm, hpi, lai, hli, h3i⟩
      have hi8 : i < 8 := by omega
      refine Z.w_gname (σ' := [some (.ref a), some (.ref wa), some (.ref t.sg), some (.ref o), some (.ref tn), some (.ref tb), some (.ref q3), some (.int (k : Int)), some (.int (0 + (i : Int))), none, none]) rfl ?_
      walk_at "w"
      refine ⟨⟨wa, rl, tg, o, t, ⟨tb, tn, ts, d⟩⟩, ra4, tl, rows, us', ws', gs', q3, k, rfl, hpi, lai, hk, gk, h3i, by omega, fun H2 us2 ws2 gs2 i2 c2 hp2 la2 hl2 h32 => ?_⟩
      walk_at "w"
      refine ⟨_, us2, ws2, gs2, rfl, same_ch sm c2 fun b hb => ?_, hp2, la2, by omega, h32⟩
      rcases List.mem_cons.mp hb with z | hb
      · rw [z]; exact fq30
      · exact fX b hb
    rintro σ' H18 ⟨v8, us18, ws18, gs18, rfl, s018, hp18, la18, hl18, h318⟩
    have hl18 : gs18.length ≤ 20 := by omega
    have hwl : ws18.length = gs18.length := la18.tab.len
    have hg1 : 1 ≤ gs18.length := by
      obtain ⟨g, hg, _⟩ := h318 tl (by unfold sort3; exact List.mem_cons_self)
      exact List.length_pos_of_mem hg
    clear la17 la16 la13 hp17 hp16 px17 h13 hl13 s017 s016 s014
    have hS18 : SqL K H18 a (ns.map V.int) := Same.seq s018 hS
    walk_at "w"
    refine ⟨a, ns, 4, rfl, hS18, hn, by decide, by decide, fun q4 o4 fq4 hpo4 => ?_⟩
    have fq40 : H q4 = none := fresh_of1 s018 fq4
    have hp19 : PoolAt (upd H18 q4 o4) q4 := ⟨o4, upd_same, hpo4⟩
    have s19 : Same H18 (upd H18 q4 o4) := same_of (Same.refl _) fq4
    generalize upd H18 q4 o4 = H19 at hp19 s19 ⊢
    have la19 := la18.same s19
    have etn19 := la19.tab.tn
    walk_at "w"
    refine ⟨q4, gs18.length, by rw [List.length_map, hwl], hp19, hg1, by omega, fun H20 pf given px20 fpf epf hgn hgv => ?_⟩
    have la20 := la19.px hp19 px20
    have hval : ∀ x ∈ given, Val gs18 x := fun x hx => by
      obtain ⟨i, rfl, hi⟩ := hgv x hx
      exact ⟨i, gs18[i], rfl, List.getElem?_eq_getElem hi⟩
    walk_at "w"
    refine ⟨⟨wa, rl, tg, o, t, ⟨tb, tn, ts, d⟩⟩, ra4, tl, rows, us18, ws18, gs18, pf, given, rfl, la20, by omega, epf, by omega, hval, fun H21 s21 => ?_⟩
    have la21 := la20.same s21
    have etn21 := la21.tab.tn
    have hwl2 : (ws18.map V.ref).length = gs18.length := by rw [List.length_map, hwl]
    walk_at "w"
    refine w_rng2 ?_
    walk_at "w"
    refine ⟨⟨by omega, by omega, by omega, by omega⟩, fun D hD => ?_⟩
    refine lc_range (lo := 1) (n := _) (fun i H' => Same H21 H' ∧ ∃ all : List Int, H' D = some (.lst (all.map V.int)) ∧ all.length = i ∧ ∀ x ∈ all, Val gs18 x) ⟨same_of (Same.refl _) hD, [], upd_same, rfl, fun x hx => by cases hx⟩ ?_ ?_
    · rintro i H' hi ⟨sm, all, eD, hal, hav⟩
      have hig : i < gs18.length := by omega
      refine Z.w_gname (σ' := [some (.ref a), some (.ref wa), some (.ref t.sg), some (.ref o), some (.ref tn), some (.ref tb), some (.ref q3), some (.int (k : Int)), v8, some (.ref pf), some (.int ((1 : Int) + (i : Int)))]) rfl ⟨rfl, ?_⟩
      walk_at "w"
      refine ⟨_, eD, by rw [List.length_map, hal]; exact Nat.lt_of_le_of_lt (show i ≤ 100 by omega) (by decide), same_mut sm hD, all ++ [(1 : Int) + (i : Int)], by rw [upd_same, List.map_append]; rfl, by rw [List.length_append, hal]; rfl, fun x hx => ?_⟩
      rcases List.mem_append.mp hx with hx | hx
      · exact hav x hx
      · exact ⟨i, gs18[i], by rw [List.mem_singleton.mp hx]; omega, List.getElem?_eq_getElem hig⟩
    rintro H22 ⟨s22, all, eD, hal, hav⟩
    have la22 := la21.same s22
    have hal2 : all.length ≤ 40 := by omega
    walk_at "w"
    refine ⟨⟨wa, rl, tg, o, t, ⟨tb, tn, ts, d⟩⟩, ra4, tl, rows, us18, ws18, gs18, D, all, rfl, la22, by omega, eD, hal2, hav, fun H23 s23 => ?_⟩
    have la23 := la22.same s23
    walk_at "w"
    rename_i le hle
    have s24 : Same H23 (upd H23 le (.lst [])) := same_of (Same.refl _) hle
    have ele : upd H23 le (.lst []) le = some (.lst (([] : List Int).map V.int)) := upd_same
    generalize upd H23 le (.lst []) = H24 at s24 ele ⊢
    have la24 := la23.same s24
    refine ⟨⟨wa, rl, tg, o, t, ⟨tb, tn, ts, d⟩⟩, ra4, tl, rows, us18, ws18, gs18, le, [], rfl, la24, by omega, ele, Nat.zero_le _, (fun x hx => by cases hx), fun H25 s25 => ?_⟩
    have la25 := la24.same s25
    walk_at "w"
    refine ⟨⟨wa, rl, tg, o, t, ⟨tb, tn, ts, d⟩⟩, ra4, tl, rows, us18, ws18, gs18, pf, given, rfl, la25, by omega, s25 _ _ (s24 _ _ (s23 _ _ (s22 _ _ (s21 _ _ epf)))), by omega, hval, fun H26 s26 => ?_⟩
    have la26 := la25.same s26
    walk_at "w"
    refine w_bankList la26.bk (by rw [List.length_map]; omega) fun pb H27 fpb s27 epb => ?_
    have la27 := la26.same s27
    have etn27 := la27.tab.tn
    walk_at "w"
    have dat := dat_ok la27
    have bkl := la27.bk.len
    rw [List.length_map] at bkl
    refine ⟨pb, tn, _, _, gs18.map (fun g => kD g.b.1), rfl, epb, etn27, dat_dp bkl fun i g b f1 f2 => ?_, dat_dp hwl fun i g b f1 f2 => (la27.tab.nk i g b f1 f2).1, gdLs_of fun x hx => (dat x hx).1, by rw [List.length_map]; omega, fun x hx => (dat x hx).2, h H27⟩
    exact (la27.bk.nk i g.b b (by rw [List.getElem?_map, f1]; rfl) f2).1
end
end L

namespace X0
end X0
namespace L
open PySem PySem.Spec PyProof.Rows L2 Z X0
theorem all_mk {l : PySem.W.OpenLaw} {w : World} {K : PySem.W.Frag} {h : Heap} {mg : Str → Option Value} {fa : Addr} (X : K.In h) (G : h.Ns mainGlobals mg) (hfa : mg "law" = some (.ref fa))
    {f_parts_kept : Addr} {od_parts_kept an_parts_kept : Option Addr} {sl_parts_kept : Array (Option Value)} {oc_parts_kept kV_parts_kept dc_parts_kept pm_parts_kept cd_parts_kept ct_parts_kept  : Value}
    {f_sort_made : Addr} {od_sort_made an_sort_made : Option Addr} {sl_sort_made : Array (Option Value)} {oc_sort_made kV_sort_made dc_sort_made pm_sort_made cd_sort_made ct_sort_made  : Value}
    {f_sum_fits : Addr} {od_sum_fits an_sum_fits : Option Addr} {sl_sum_fits : Array (Option Value)} {oc_sum_fits kV_sum_fits dc_sum_fits pm_sum_fits cd_sum_fits ct_sum_fits  : Value}
    {f_connective_fits : Addr} {od_connective_fits an_connective_fits : Option Addr} {sl_connective_fits : Array (Option Value)} {oc_connective_fits kV_connective_fits dc_connective_fits pm_connective_fits cd_connective_fits ct_connective_fits  : Value}
    {f_comparison_fits : Addr} {od_comparison_fits an_comparison_fits : Option Addr} {sl_comparison_fits : Array (Option Value)} {oc_comparison_fits kV_comparison_fits dc_comparison_fits pm_comparison_fits cd_comparison_fits ct_comparison_fits  : Value}
    {f_all_of : Addr} {od_all_of an_all_of : Option Addr} {sl_all_of : Array (Option Value)} {oc_all_of kV_all_of dc_all_of pm_all_of cd_all_of ct_all_of  : Value}
    {f_is_name : Addr} {od_is_name an_is_name : Option Addr} {sl_is_name : Array (Option Value)} {oc_is_name kV_is_name dc_is_name pm_is_name cd_is_name ct_is_name  : Value}
    {f_meeting_pairs : Addr} {od_meeting_pairs an_meeting_pairs : Option Addr} {sl_meeting_pairs : Array (Option Value)} {oc_meeting_pairs kV_meeting_pairs dc_meeting_pairs pm_meeting_pairs cd_meeting_pairs ct_meeting_pairs  : Value}
    {f_pairs_of_calls : Addr} {od_pairs_of_calls an_pairs_of_calls : Option Addr} {sl_pairs_of_calls : Array (Option Value)} {oc_pairs_of_calls kV_pairs_of_calls dc_pairs_of_calls pm_pairs_of_calls cd_pairs_of_calls ct_pairs_of_calls  : Value}
    {f_pool : Addr} {od_pool an_pool : Option Addr} {sl_pool : Array (Option Value)} {oc_pool kV_pool dc_pool pm_pool cd_pool ct_pool  : Value}
    {f_take : Addr} {od_take an_take : Option Addr} {sl_take : Array (Option Value)} {oc_take kV_take dc_take pm_take cd_take ct_take  : Value}
    {f_word : Addr} {od_word an_word : Option Addr} {sl_word : Array (Option Value)} {oc_word kV_word dc_word pm_word cd_word ct_word  : Value}
    {f_world : Addr} {od_world an_world : Option Addr} {sl_world : Array (Option Value)} {oc_world kV_world dc_world pm_world cd_world ct_world  : Value}
    {f_declare : Addr} {od_declare an_declare : Option Addr} {sl_declare : Array (Option Value)} {oc_declare kV_declare dc_declare pm_declare cd_declare ct_declare  : Value}
    {f_alike : Addr} {od_alike an_alike : Option Addr} {sl_alike : Array (Option Value)} {oc_alike kV_alike dc_alike pm_alike cd_alike ct_alike  : Value}
    {f_sort_for : Addr} {od_sort_for an_sort_for : Option Addr} {sl_sort_for : Array (Option Value)} {oc_sort_for kV_sort_for dc_sort_for pm_sort_for cd_sort_for ct_sort_for  : Value}
    {f_put : Addr} {od_put an_put : Option Addr} {sl_put : Array (Option Value)} {oc_put kV_put dc_put pm_put cd_put ct_put  : Value}
    {f_make : Addr} {od_make an_make : Option Addr} {sl_make : Array (Option Value)} {oc_make kV_make dc_make pm_make cd_make ct_make  : Value}
    {f_some : Addr} {od_some an_some : Option Addr} {sl_some : Array (Option Value)} {oc_some kV_some dc_some pm_some cd_some ct_some  : Value}
    {f_wide : Addr} {od_wide an_wide : Option Addr} {sl_wide : Array (Option Value)} {oc_wide kV_wide dc_wide pm_wide cd_wide ct_wide  : Value}
    {f_begun : Addr} {od_begun an_begun : Option Addr} {sl_begun : Array (Option Value)} {oc_begun kV_begun dc_begun pm_begun cd_begun ct_begun  : Value}
    {f_called : Addr} {od_called an_called : Option Addr} {sl_called : Array (Option Value)} {oc_called kV_called dc_called pm_called cd_called ct_called  : Value}
    {f_list : Addr} {od_list an_list : Option Addr} {sl_list : Array (Option Value)} {oc_list kV_list dc_list pm_list cd_list ct_list  : Value}
    {f_note : Addr} {od_note an_note : Option Addr} {sl_note : Array (Option Value)} {oc_note kV_note dc_note pm_note cd_note ct_note  : Value}
    {f_due : Addr} {od_due an_due : Option Addr} {sl_due : Array (Option Value)} {oc_due kV_due dc_due pm_due cd_due ct_due  : Value}
    {f_pairs_told : Addr} {od_pairs_told an_pairs_told : Option Addr} {sl_pairs_told : Array (Option Value)} {oc_pairs_told kV_pairs_told dc_pairs_told pm_pairs_told cd_pairs_told ct_pairs_told  : Value}
    {f_law : Addr} {od_law an_law : Option Addr} {sl_law : Array (Option Value)} {oc_law kV_law dc_law pm_law cd_law ct_law  : Value}
    {A_OPS : Addr} {dd_OPS : Option Addr} {nn_OPS : Nat} {sl_OPS : Array (Option Value)} {t_OPS_0 t_OPS_1 t_OPS_2 t_OPS_3 t_OPS_4 t_OPS_5 t_OPS_6 t_OPS_7 t_OPS_8 t_OPS_9 t_OPS_10 t_OPS_11 t_OPS_12 t_OPS_13 t_OPS_14 t_OPS_15 t_OPS_16 : Tok}
    {A_RESERVED : Addr} {dd_RESERVED : Option Addr} {nn_RESERVED : Nat} {sl_RESERVED : Array (Option Value)} {t_RESERVED_0 t_RESERVED_1 t_RESERVED_2 t_RESERVED_3 t_RESERVED_4 t_RESERVED_5 t_RESERVED_6 t_RESERVED_7 t_RESERVED_8 t_RESERVED_9 t_RESERVED_10 t_RESERVED_11 : Tok}
    {A_BASE_SORTS : Addr} {dd_BASE_SORTS : Option Addr} {nn_BASE_SORTS : Nat} {sl_BASE_SORTS : Array (Option Value)} {t_BASE_SORTS_0 t_BASE_SORTS_1 t_BASE_SORTS_2 : Tok}
    {A_NUMBER_SORTS : Addr} {dd_NUMBER_SORTS : Option Addr} {nn_NUMBER_SORTS : Nat} {sl_NUMBER_SORTS : Array (Option Value)} {t_NUMBER_SORTS_0 t_NUMBER_SORTS_1 : Tok}
    {A_CONNECTIVES : Addr} {dd_CONNECTIVES : Option Addr} {nn_CONNECTIVES : Nat} {sl_CONNECTIVES : Array (Option Value)} {t_CONNECTIVES_0 t_CONNECTIVES_1 t_CONNECTIVES_2 t_CONNECTIVES_3 : Tok}
    {A_LEAF_SORTS : Addr} {t_LEAF_SORTS_0 t_LEAF_SORTS_1 t_LEAF_SORTS_2 t_LEAF_SORTS_3 : Tok}
    {A_SUMS : Addr} {t_SUMS_0 t_SUMS_1 t_SUMS_2 : Tok}
    {ke_LEAF_SORTS : Array DictEntry} {kn_LEAF_SORTS : Nat}
    {ke_SUMS : Array DictEntry} {kn_SUMS : Nat}
    {C_Signature : Addr}
    {C_Bank : Addr}
    {f_Bank_init : Addr} {od_Bank_init an_Bank_init : Option Addr} {sl_Bank_init : Array (Option Value)} {oc_Bank_init kV_Bank_init dc_Bank_init pm_Bank_init cd_Bank_init ct_Bank_init : Value}
    {f_Bank_make : Addr} {od_Bank_make an_Bank_make : Option Addr} {sl_Bank_make : Array (Option Value)} {oc_Bank_make kV_Bank_make dc_Bank_make pm_Bank_make cd_Bank_make ct_Bank_make : Value}
    {f_Bank_node : Addr} {od_Bank_node an_Bank_node : Option Addr} {sl_Bank_node : Array (Option Value)} {oc_Bank_node kV_Bank_node dc_Bank_node pm_Bank_node cd_Bank_node ct_Bank_node : Value}
    {f_Bank_sort_of : Addr} {od_Bank_sort_of an_Bank_sort_of : Option Addr} {sl_Bank_sort_of : Array (Option Value)} {oc_Bank_sort_of kV_Bank_sort_of dc_Bank_sort_of pm_Bank_sort_of cd_Bank_sort_of ct_Bank_sort_of : Value}
    {f_Bank_has : Addr} {od_Bank_has an_Bank_has : Option Addr} {sl_Bank_has : Array (Option Value)} {oc_Bank_has kV_Bank_has dc_Bank_has pm_Bank_has cd_Bank_has ct_Bank_has : Value}
    {f_Bank_len : Addr} {od_Bank_len an_Bank_len : Option Addr} {sl_Bank_len : Array (Option Value)} {oc_Bank_len kV_Bank_len dc_Bank_len pm_Bank_len cd_Bank_len ct_Bank_len : Value}
    {f_Bank_iter : Addr} {od_Bank_iter an_Bank_iter : Option Addr} {sl_Bank_iter : Array (Option Value)} {oc_Bank_iter kV_Bank_iter dc_Bank_iter pm_Bank_iter cd_Bank_iter ct_Bank_iter : Value}
    {f_Signature_init : Addr} {od_Signature_init an_Signature_init : Option Addr} {sl_Signature_init : Array (Option Value)} {oc_Signature_init kV_Signature_init dc_Signature_init pm_Signature_init cd_Signature_init ct_Signature_init : Value}
    {f_Signature_declare_sort : Addr} {od_Signature_declare_sort an_Signature_declare_sort : Option Addr} {sl_Signature_declare_sort : Array (Option Value)} {oc_Signature_declare_sort kV_Signature_declare_sort dc_Signature_declare_sort pm_Signature_declare_sort cd_Signature_declare_sort ct_Signature_declare_sort : Value}
    {f_Signature_declare_function : Addr} {od_Signature_declare_function an_Signature_declare_function : Option Addr} {sl_Signature_declare_function : Array (Option Value)} {oc_Signature_declare_function kV_Signature_declare_function dc_Signature_declare_function pm_Signature_declare_function cd_Signature_declare_function ct_Signature_declare_function : Value}
    {f_Signature_knows_sort : Addr} {od_Signature_knows_sort an_Signature_knows_sort : Option Addr} {sl_Signature_knows_sort : Array (Option Value)} {oc_Signature_knows_sort kV_Signature_knows_sort dc_Signature_knows_sort pm_Signature_knows_sort cd_Signature_knows_sort ct_Signature_knows_sort : Value}
    {f_Signature_knows_function : Addr} {od_Signature_knows_function an_Signature_knows_function : Option Addr} {sl_Signature_knows_function : Array (Option Value)} {oc_Signature_knows_function kV_Signature_knows_function dc_Signature_knows_function pm_Signature_knows_function cd_Signature_knows_function ct_Signature_knows_function : Value}
    {f_Signature_arguments_of : Addr} {od_Signature_arguments_of an_Signature_arguments_of : Option Addr} {sl_Signature_arguments_of : Array (Option Value)} {oc_Signature_arguments_of kV_Signature_arguments_of dc_Signature_arguments_of pm_Signature_arguments_of cd_Signature_arguments_of ct_Signature_arguments_of : Value}
    {f_Signature_result_of : Addr} {od_Signature_result_of an_Signature_result_of : Option Addr} {sl_Signature_result_of : Array (Option Value)} {oc_Signature_result_of kV_Signature_result_of dc_Signature_result_of pm_Signature_result_of cd_Signature_result_of ct_Signature_result_of : Value}
    {f_Signature_function : Addr} {od_Signature_function an_Signature_function : Option Addr} {sl_Signature_function : Array (Option Value)} {oc_Signature_function kV_Signature_function dc_Signature_function pm_Signature_function cd_Signature_function ct_Signature_function : Value}
    {f_Signature_refuse_name : Addr} {od_Signature_refuse_name an_Signature_refuse_name : Option Addr} {sl_Signature_refuse_name : Array (Option Value)} {oc_Signature_refuse_name kV_Signature_refuse_name dc_Signature_refuse_name pm_Signature_refuse_name cd_Signature_refuse_name ct_Signature_refuse_name : Value}
    (a_parts_kept : PySem.W.nsIn K mainGlobals "_parts_kept" = some (some (.ref f_parts_kept)))
    (l_parts_kept : K.lookup f_parts_kept = some ⟨oc_parts_kept, od_parts_kept, .func (PySem.W.fnOf "_parts_kept" "_parts_kept" (defArgs s_parts_kept) (defBody s_parts_kept) (defScope s_parts_kept) .none kV_parts_kept dc_parts_kept pm_parts_kept an_parts_kept cd_parts_kept ct_parts_kept), sl_parts_kept⟩)
    (c_parts_kept : PySem.W.codeIn K cd_parts_kept "_parts_kept" = true)
    (k_parts_kept : PySem.W.keepIn K (.ref f_parts_kept) = true)
    (a_sort_made : PySem.W.nsIn K mainGlobals "_sort_made" = some (some (.ref f_sort_made)))
    (l_sort_made : K.lookup f_sort_made = some ⟨oc_sort_made, od_sort_made, .func (PySem.W.fnOf "_sort_made" "_sort_made" (defArgs s_sort_made) (defBody s_sort_made) (defScope s_sort_made) .none kV_sort_made dc_sort_made pm_sort_made an_sort_made cd_sort_made ct_sort_made), sl_sort_made⟩)
    (c_sort_made : PySem.W.codeIn K cd_sort_made "_sort_made" = true)
    (k_sort_made : PySem.W.keepIn K (.ref f_sort_made) = true)
    (a_sum_fits : PySem.W.nsIn K mainGlobals "_sum_fits" = some (some (.ref f_sum_fits)))
    (l_sum_fits : K.lookup f_sum_fits = some ⟨oc_sum_fits, od_sum_fits, .func (PySem.W.fnOf "_sum_fits" "_sum_fits" (defArgs s_sum_fits) (defBody s_sum_fits) (defScope s_sum_fits) .none kV_sum_fits dc_sum_fits pm_sum_fits an_sum_fits cd_sum_fits ct_sum_fits), sl_sum_fits⟩)
    (c_sum_fits : PySem.W.codeIn K cd_sum_fits "_sum_fits" = true)
    (k_sum_fits : PySem.W.keepIn K (.ref f_sum_fits) = true)
    (a_connective_fits : PySem.W.nsIn K mainGlobals "_connective_fits" = some (some (.ref f_connective_fits)))
    (l_connective_fits : K.lookup f_connective_fits = some ⟨oc_connective_fits, od_connective_fits, .func (PySem.W.fnOf "_connective_fits" "_connective_fits" (defArgs s_connective_fits) (defBody s_connective_fits) (defScope s_connective_fits) .none kV_connective_fits dc_connective_fits pm_connective_fits an_connective_fits cd_connective_fits ct_connective_fits), sl_connective_fits⟩)
    (c_connective_fits : PySem.W.codeIn K cd_connective_fits "_connective_fits" = true)
    (k_connective_fits : PySem.W.keepIn K (.ref f_connective_fits) = true)
    (a_comparison_fits : PySem.W.nsIn K mainGlobals "_comparison_fits" = some (some (.ref f_comparison_fits)))
    (l_comparison_fits : K.lookup f_comparison_fits = some ⟨oc_comparison_fits, od_comparison_fits, .func (PySem.W.fnOf "_comparison_fits" "_comparison_fits" (defArgs s_comparison_fits) (defBody s_comparison_fits) (defScope s_comparison_fits) .none kV_comparison_fits dc_comparison_fits pm_comparison_fits an_comparison_fits cd_comparison_fits ct_comparison_fits), sl_comparison_fits⟩)
    (c_comparison_fits : PySem.W.codeIn K cd_comparison_fits "_comparison_fits" = true)
    (k_comparison_fits : PySem.W.keepIn K (.ref f_comparison_fits) = true)
    (a_all_of : PySem.W.nsIn K mainGlobals "_all_of" = some (some (.ref f_all_of)))
    (l_all_of : K.lookup f_all_of = some ⟨oc_all_of, od_all_of, .func (PySem.W.fnOf "_all_of" "_all_of" (defArgs s_all_of) (defBody s_all_of) (defScope s_all_of) .none kV_all_of dc_all_of pm_all_of an_all_of cd_all_of ct_all_of), sl_all_of⟩)
    (c_all_of : PySem.W.codeIn K cd_all_of "_all_of" = true)
    (k_all_of : PySem.W.keepIn K (.ref f_all_of) = true)
    (a_is_name : PySem.W.nsIn K mainGlobals "is_name" = some (some (.ref f_is_name)))
    (l_is_name : K.lookup f_is_name = some ⟨oc_is_name, od_is_name, .func (PySem.W.fnOf "is_name" "is_name" (defArgs s_is_name) (defBody s_is_name) (defScope s_is_name) .none kV_is_name dc_is_name pm_is_name an_is_name cd_is_name ct_is_name), sl_is_name⟩)
    (c_is_name : PySem.W.codeIn K cd_is_name "is_name" = true)
    (k_is_name : PySem.W.keepIn K (.ref f_is_name) = true)
    (a_meeting_pairs : PySem.W.nsIn K mainGlobals "meeting_pairs" = some (some (.ref f_meeting_pairs)))
    (l_meeting_pairs : K.lookup f_meeting_pairs = some ⟨oc_meeting_pairs, od_meeting_pairs, .func (PySem.W.fnOf "meeting_pairs" "meeting_pairs" (defArgs s_meeting_pairs) (defBody s_meeting_pairs) (defScope s_meeting_pairs) .none kV_meeting_pairs dc_meeting_pairs pm_meeting_pairs an_meeting_pairs cd_meeting_pairs ct_meeting_pairs), sl_meeting_pairs⟩)
    (c_meeting_pairs : PySem.W.codeIn K cd_meeting_pairs "meeting_pairs" = true)
    (k_meeting_pairs : PySem.W.keepIn K (.ref f_meeting_pairs) = true)
    (a_pairs_of_calls : PySem.W.nsIn K mainGlobals "_pairs_of_calls" = some (some (.ref f_pairs_of_calls)))
    (l_pairs_of_calls : K.lookup f_pairs_of_calls = some ⟨oc_pairs_of_calls, od_pairs_of_calls, .func (PySem.W.fnOf "_pairs_of_calls" "_pairs_of_calls" (defArgs s_pairs_of_calls) (defBody s_pairs_of_calls) (defScope s_pairs_of_calls) .none kV_pairs_of_calls dc_pairs_of_calls pm_pairs_of_calls an_pairs_of_calls cd_pairs_of_calls ct_pairs_of_calls), sl_pairs_of_calls⟩)
    (c_pairs_of_calls : PySem.W.codeIn K cd_pairs_of_calls "_pairs_of_calls" = true)
    (k_pairs_of_calls : PySem.W.keepIn K (.ref f_pairs_of_calls) = true)
    (a_pool : PySem.W.nsIn K mainGlobals "_law_pool" = some (some (.ref f_pool)))
    (l_pool : K.lookup f_pool = some ⟨oc_pool, od_pool, .func (PySem.W.fnOf "_law_pool" "_law_pool" (defArgs s_pool) (defBody s_pool) (defScope s_pool) .none kV_pool dc_pool pm_pool an_pool cd_pool ct_pool), sl_pool⟩)
    (c_pool : PySem.W.codeIn K cd_pool "_law_pool" = true)
    (k_pool : PySem.W.keepIn K (.ref f_pool) = true)
    (a_take : PySem.W.nsIn K mainGlobals "_law_take" = some (some (.ref f_take)))
    (l_take : K.lookup f_take = some ⟨oc_take, od_take, .func (PySem.W.fnOf "_law_take" "_law_take" (defArgs s_take) (defBody s_take) (defScope s_take) .none kV_take dc_take pm_take an_take cd_take ct_take), sl_take⟩)
    (c_take : PySem.W.codeIn K cd_take "_law_take" = true)
    (k_take : PySem.W.keepIn K (.ref f_take) = true)
    (a_word : PySem.W.nsIn K mainGlobals "_law_word" = some (some (.ref f_word)))
    (l_word : K.lookup f_word = some ⟨oc_word, od_word, .func (PySem.W.fnOf "_law_word" "_law_word" (defArgs s_word) (defBody s_word) (defScope s_word) .none kV_word dc_word pm_word an_word cd_word ct_word), sl_word⟩)
    (c_word : PySem.W.codeIn K cd_word "_law_word" = true)
    (k_word : PySem.W.keepIn K (.ref f_word) = true)
    (a_world : PySem.W.nsIn K mainGlobals "_law_world" = some (some (.ref f_world)))
    (l_world : K.lookup f_world = some ⟨oc_world, od_world, .func (PySem.W.fnOf "_law_world" "_law_world" (defArgs s_world) (defBody s_world) (defScope s_world) .none kV_world dc_world pm_world an_world cd_world ct_world), sl_world⟩)
    (c_world : PySem.W.codeIn K cd_world "_law_world" = true)
    (k_world : PySem.W.keepIn K (.ref f_world) = true)
    (a_declare : PySem.W.nsIn K mainGlobals "_law_declare" = some (some (.ref f_declare)))
    (l_declare : K.lookup f_declare = some ⟨oc_declare, od_declare, .func (PySem.W.fnOf "_law_declare" "_law_declare" (defArgs s_declare) (defBody s_declare) (defScope s_declare) .none kV_declare dc_declare pm_declare an_declare cd_declare ct_declare), sl_declare⟩)
    (c_declare : PySem.W.codeIn K cd_declare "_law_declare" = true)
    (k_declare : PySem.W.keepIn K (.ref f_declare) = true)
    (a_alike : PySem.W.nsIn K mainGlobals "_law_alike" = some (some (.ref f_alike)))
    (l_alike : K.lookup f_alike = some ⟨oc_alike, od_alike, .func (PySem.W.fnOf "_law_alike" "_law_alike" (defArgs s_alike) (defBody s_alike) (defScope s_alike) .none kV_alike dc_alike pm_alike an_alike cd_alike ct_alike), sl_alike⟩)
    (c_alike : PySem.W.codeIn K cd_alike "_law_alike" = true)
    (k_alike : PySem.W.keepIn K (.ref f_alike) = true)
    (a_sort_for : PySem.W.nsIn K mainGlobals "_law_sort_for" = some (some (.ref f_sort_for)))
    (l_sort_for : K.lookup f_sort_for = some ⟨oc_sort_for, od_sort_for, .func (PySem.W.fnOf "_law_sort_for" "_law_sort_for" (defArgs s_sort_for) (defBody s_sort_for) (defScope s_sort_for) .none kV_sort_for dc_sort_for pm_sort_for an_sort_for cd_sort_for ct_sort_for), sl_sort_for⟩)
    (c_sort_for : PySem.W.codeIn K cd_sort_for "_law_sort_for" = true)
    (k_sort_for : PySem.W.keepIn K (.ref f_sort_for) = true)
    (a_put : PySem.W.nsIn K mainGlobals "_law_put" = some (some (.ref f_put)))
    (l_put : K.lookup f_put = some ⟨oc_put, od_put, .func (PySem.W.fnOf "_law_put" "_law_put" (defArgs s_put) (defBody s_put) (defScope s_put) .none kV_put dc_put pm_put an_put cd_put ct_put), sl_put⟩)
    (c_put : PySem.W.codeIn K cd_put "_law_put" = true)
    (k_put : PySem.W.keepIn K (.ref f_put) = true)
    (a_make : PySem.W.nsIn K mainGlobals "_law_make" = some (some (.ref f_make)))
    (l_make : K.lookup f_make = some ⟨oc_make, od_make, .func (PySem.W.fnOf "_law_make" "_law_make" (defArgs s_make) (defBody s_make) (defScope s_make) .none kV_make dc_make pm_make an_make cd_make ct_make), sl_make⟩)
    (c_make : PySem.W.codeIn K cd_make "_law_make" = true)
    (k_make : PySem.W.keepIn K (.ref f_make) = true)
    (a_some : PySem.W.nsIn K mainGlobals "_law_some" = some (some (.ref f_some)))
    (l_some : K.lookup f_some = some ⟨oc_some, od_some, .func (PySem.W.fnOf "_law_some" "_law_some" (defArgs s_some) (defBody s_some) (defScope s_some) .none kV_some dc_some pm_some an_some cd_some ct_some), sl_some⟩)
    (c_some : PySem.W.codeIn K cd_some "_law_some" = true)
    (k_some : PySem.W.keepIn K (.ref f_some) = true)
    (a_wide : PySem.W.nsIn K mainGlobals "_law_wide" = some (some (.ref f_wide)))
    (l_wide : K.lookup f_wide = some ⟨oc_wide, od_wide, .func (PySem.W.fnOf "_law_wide" "_law_wide" (defArgs s_wide) (defBody s_wide) (defScope s_wide) .none kV_wide dc_wide pm_wide an_wide cd_wide ct_wide), sl_wide⟩)
    (c_wide : PySem.W.codeIn K cd_wide "_law_wide" = true)
    (k_wide : PySem.W.keepIn K (.ref f_wide) = true)
    (a_begun : PySem.W.nsIn K mainGlobals "_law_begun" = some (some (.ref f_begun)))
    (l_begun : K.lookup f_begun = some ⟨oc_begun, od_begun, .func (PySem.W.fnOf "_law_begun" "_law_begun" (defArgs s_begun) (defBody s_begun) (defScope s_begun) .none kV_begun dc_begun pm_begun an_begun cd_begun ct_begun), sl_begun⟩)
    (c_begun : PySem.W.codeIn K cd_begun "_law_begun" = true)
    (k_begun : PySem.W.keepIn K (.ref f_begun) = true)
    (a_called : PySem.W.nsIn K mainGlobals "_law_called" = some (some (.ref f_called)))
    (l_called : K.lookup f_called = some ⟨oc_called, od_called, .func (PySem.W.fnOf "_law_called" "_law_called" (defArgs s_called) (defBody s_called) (defScope s_called) .none kV_called dc_called pm_called an_called cd_called ct_called), sl_called⟩)
    (c_called : PySem.W.codeIn K cd_called "_law_called" = true)
    (k_called : PySem.W.keepIn K (.ref f_called) = true)
    (a_list : PySem.W.nsIn K mainGlobals "_law_list" = some (some (.ref f_list)))
    (l_list : K.lookup f_list = some ⟨oc_list, od_list, .func (PySem.W.fnOf "_law_list" "_law_list" (defArgs s_list) (defBody s_list) (defScope s_list) .none kV_list dc_list pm_list an_list cd_list ct_list), sl_list⟩)
    (c_list : PySem.W.codeIn K cd_list "_law_list" = true)
    (k_list : PySem.W.keepIn K (.ref f_list) = true)
    (a_note : PySem.W.nsIn K mainGlobals "_law_note" = some (some (.ref f_note)))
    (l_note : K.lookup f_note = some ⟨oc_note, od_note, .func (PySem.W.fnOf "_law_note" "_law_note" (defArgs s_note) (defBody s_note) (defScope s_note) .none kV_note dc_note pm_note an_note cd_note ct_note), sl_note⟩)
    (c_note : PySem.W.codeIn K cd_note "_law_note" = true)
    (k_note : PySem.W.keepIn K (.ref f_note) = true)
    (a_due : PySem.W.nsIn K mainGlobals "_law_due" = some (some (.ref f_due)))
    (l_due : K.lookup f_due = some ⟨oc_due, od_due, .func (PySem.W.fnOf "_law_due" "_law_due" (defArgs s_due) (defBody s_due) (defScope s_due) .none kV_due dc_due pm_due an_due cd_due ct_due), sl_due⟩)
    (c_due : PySem.W.codeIn K cd_due "_law_due" = true)
    (k_due : PySem.W.keepIn K (.ref f_due) = true)
    (a_pairs_told : PySem.W.nsIn K mainGlobals "_law_pairs_told" = some (some (.ref f_pairs_told)))
    (l_pairs_told : K.lookup f_pairs_told = some ⟨oc_pairs_told, od_pairs_told, .func (PySem.W.fnOf "_law_pairs_told" "_law_pairs_told" (defArgs s_pairs_told) (defBody s_pairs_told) (defScope s_pairs_told) .none kV_pairs_told dc_pairs_told pm_pairs_told an_pairs_told cd_pairs_told ct_pairs_told), sl_pairs_told⟩)
    (c_pairs_told : PySem.W.codeIn K cd_pairs_told "_law_pairs_told" = true)
    (k_pairs_told : PySem.W.keepIn K (.ref f_pairs_told) = true)
    (a_law : PySem.W.nsIn K mainGlobals "law" = some (some (.ref f_law)))
    (l_law : K.lookup f_law = some ⟨oc_law, od_law, .func (PySem.W.fnOf "law" "law" (defArgs s_law) (defBody s_law) (defScope s_law) .none kV_law dc_law pm_law an_law cd_law ct_law), sl_law⟩)
    (c_law : PySem.W.codeIn K cd_law "law" = true)
    (k_law : PySem.W.keepIn K (.ref f_law) = true)
    (m_len : PySem.W.nsIn K mainGlobals "len" = some none)
    (m_int : PySem.W.nsIn K mainGlobals "int" = some none)
    (m_min : PySem.W.nsIn K mainGlobals "min" = some none)
    (m_max : PySem.W.nsIn K mainGlobals "max" = some none)
    (m_isinstance : PySem.W.nsIn K mainGlobals "isinstance" = some none)
    (m_range : PySem.W.nsIn K mainGlobals "range" = some none)
    (m_bool : PySem.W.nsIn K mainGlobals "bool" = some none)
    (m_str : PySem.W.nsIn K mainGlobals "str" = some none)
    (m_list : PySem.W.nsIn K mainGlobals "list" = some none)
    (m_tuple : PySem.W.nsIn K mainGlobals "tuple" = some none)
    (m_sorted : PySem.W.nsIn K mainGlobals "sorted" = some none)
    (m_enumerate : PySem.W.nsIn K mainGlobals "enumerate" = some none)
    (m_zip : PySem.W.nsIn K mainGlobals "zip" = some none)
    (m_set : PySem.W.nsIn K mainGlobals "set" = some none)
    (m_all : PySem.W.nsIn K mainGlobals "all" = some none)
    (m_iter : PySem.W.nsIn K mainGlobals "iter" = some none)
    (n_Signature : PySem.W.nsIn K mainGlobals "Signature" = some (some (.ref C_Signature)))
    (n_Bank : PySem.W.nsIn K mainGlobals "Bank" = some (some (.ref C_Bank)))
    (a_Bank_init : PySem.W.findIn K (.ref C_Bank) "__init__" = some (some (.ref f_Bank_init)))
    (i_Bank_init : PySem.W.typeIn K (.ref f_Bank_init) = some (.type "function"))
    (l_Bank_init : K.lookup f_Bank_init = some ⟨oc_Bank_init, od_Bank_init, .func (PySem.W.fnOf "__init__" "Bank.__init__" (defArgs s_Bank_init) (defBody s_Bank_init) (defScope s_Bank_init) .none kV_Bank_init dc_Bank_init pm_Bank_init an_Bank_init cd_Bank_init ct_Bank_init), sl_Bank_init⟩)
    (c_Bank_init : PySem.W.codeIn K cd_Bank_init "Bank.__init__" = true)
    (k_Bank_init : PySem.W.keepIn K (.ref f_Bank_init) = true)
    (a_Bank_make : PySem.W.findIn K (.ref C_Bank) "make" = some (some (.ref f_Bank_make)))
    (i_Bank_make : PySem.W.typeIn K (.ref f_Bank_make) = some (.type "function"))
    (l_Bank_make : K.lookup f_Bank_make = some ⟨oc_Bank_make, od_Bank_make, .func (PySem.W.fnOf "make" "Bank.make" (defArgs s_Bank_make) (defBody s_Bank_make) (defScope s_Bank_make) .none kV_Bank_make dc_Bank_make pm_Bank_make an_Bank_make cd_Bank_make ct_Bank_make), sl_Bank_make⟩)
    (c_Bank_make : PySem.W.codeIn K cd_Bank_make "Bank.make" = true)
    (k_Bank_make : PySem.W.keepIn K (.ref f_Bank_make) = true)
    (a_Bank_node : PySem.W.findIn K (.ref C_Bank) "node" = some (some (.ref f_Bank_node)))
    (i_Bank_node : PySem.W.typeIn K (.ref f_Bank_node) = some (.type "function"))
    (l_Bank_node : K.lookup f_Bank_node = some ⟨oc_Bank_node, od_Bank_node, .func (PySem.W.fnOf "node" "Bank.node" (defArgs s_Bank_node) (defBody s_Bank_node) (defScope s_Bank_node) .none kV_Bank_node dc_Bank_node pm_Bank_node an_Bank_node cd_Bank_node ct_Bank_node), sl_Bank_node⟩)
    (c_Bank_node : PySem.W.codeIn K cd_Bank_node "Bank.node" = true)
    (k_Bank_node : PySem.W.keepIn K (.ref f_Bank_node) = true)
    (a_Bank_sort_of : PySem.W.findIn K (.ref C_Bank) "sort_of" = some (some (.ref f_Bank_sort_of)))
    (i_Bank_sort_of : PySem.W.typeIn K (.ref f_Bank_sort_of) = some (.type "function"))
    (l_Bank_sort_of : K.lookup f_Bank_sort_of = some ⟨oc_Bank_sort_of, od_Bank_sort_of, .func (PySem.W.fnOf "sort_of" "Bank.sort_of" (defArgs s_Bank_sort_of) (defBody s_Bank_sort_of) (defScope s_Bank_sort_of) .none kV_Bank_sort_of dc_Bank_sort_of pm_Bank_sort_of an_Bank_sort_of cd_Bank_sort_of ct_Bank_sort_of), sl_Bank_sort_of⟩)
    (c_Bank_sort_of : PySem.W.codeIn K cd_Bank_sort_of "Bank.sort_of" = true)
    (k_Bank_sort_of : PySem.W.keepIn K (.ref f_Bank_sort_of) = true)
    (a_Bank_has : PySem.W.findIn K (.ref C_Bank) "has" = some (some (.ref f_Bank_has)))
    (i_Bank_has : PySem.W.typeIn K (.ref f_Bank_has) = some (.type "function"))
    (l_Bank_has : K.lookup f_Bank_has = some ⟨oc_Bank_has, od_Bank_has, .func (PySem.W.fnOf "has" "Bank.has" (defArgs s_Bank_has) (defBody s_Bank_has) (defScope s_Bank_has) .none kV_Bank_has dc_Bank_has pm_Bank_has an_Bank_has cd_Bank_has ct_Bank_has), sl_Bank_has⟩)
    (c_Bank_has : PySem.W.codeIn K cd_Bank_has "Bank.has" = true)
    (k_Bank_has : PySem.W.keepIn K (.ref f_Bank_has) = true)
    (a_Bank_len : PySem.W.findIn K (.ref C_Bank) "__len__" = some (some (.ref f_Bank_len)))
    (i_Bank_len : PySem.W.typeIn K (.ref f_Bank_len) = some (.type "function"))
    (l_Bank_len : K.lookup f_Bank_len = some ⟨oc_Bank_len, od_Bank_len, .func (PySem.W.fnOf "__len__" "Bank.__len__" (defArgs s_Bank_len) (defBody s_Bank_len) (defScope s_Bank_len) .none kV_Bank_len dc_Bank_len pm_Bank_len an_Bank_len cd_Bank_len ct_Bank_len), sl_Bank_len⟩)
    (c_Bank_len : PySem.W.codeIn K cd_Bank_len "Bank.__len__" = true)
    (k_Bank_len : PySem.W.keepIn K (.ref f_Bank_len) = true)
    (a_Bank_iter : PySem.W.findIn K (.ref C_Bank) "__iter__" = some (some (.ref f_Bank_iter)))
    (i_Bank_iter : PySem.W.typeIn K (.ref f_Bank_iter) = some (.type "function"))
    (l_Bank_iter : K.lookup f_Bank_iter = some ⟨oc_Bank_iter, od_Bank_iter, .func (PySem.W.fnOf "__iter__" "Bank.__iter__" (defArgs s_Bank_iter) (defBody s_Bank_iter) (defScope s_Bank_iter) .none kV_Bank_iter dc_Bank_iter pm_Bank_iter an_Bank_iter cd_Bank_iter ct_Bank_iter), sl_Bank_iter⟩)
    (c_Bank_iter : PySem.W.codeIn K cd_Bank_iter "Bank.__iter__" = true)
    (k_Bank_iter : PySem.W.keepIn K (.ref f_Bank_iter) = true)
    (a_Signature_init : PySem.W.findIn K (.ref C_Signature) "__init__" = some (some (.ref f_Signature_init)))
    (i_Signature_init : PySem.W.typeIn K (.ref f_Signature_init) = some (.type "function"))
    (l_Signature_init : K.lookup f_Signature_init = some ⟨oc_Signature_init, od_Signature_init, .func (PySem.W.fnOf "__init__" "Signature.__init__" (defArgs s_Signature_init) (defBody s_Signature_init) (defScope s_Signature_init) .none kV_Signature_init dc_Signature_init pm_Signature_init an_Signature_init cd_Signature_init ct_Signature_init), sl_Signature_init⟩)
    (c_Signature_init : PySem.W.codeIn K cd_Signature_init "Signature.__init__" = true)
    (k_Signature_init : PySem.W.keepIn K (.ref f_Signature_init) = true)
    (a_Signature_declare_sort : PySem.W.findIn K (.ref C_Signature) "declare_sort" = some (some (.ref f_Signature_declare_sort)))
    (i_Signature_declare_sort : PySem.W.typeIn K (.ref f_Signature_declare_sort) = some (.type "function"))
    (l_Signature_declare_sort : K.lookup f_Signature_declare_sort = some ⟨oc_Signature_declare_sort, od_Signature_declare_sort, .func (PySem.W.fnOf "declare_sort" "Signature.declare_sort" (defArgs s_Signature_declare_sort) (defBody s_Signature_declare_sort) (defScope s_Signature_declare_sort) .none kV_Signature_declare_sort dc_Signature_declare_sort pm_Signature_declare_sort an_Signature_declare_sort cd_Signature_declare_sort ct_Signature_declare_sort), sl_Signature_declare_sort⟩)
    (c_Signature_declare_sort : PySem.W.codeIn K cd_Signature_declare_sort "Signature.declare_sort" = true)
    (k_Signature_declare_sort : PySem.W.keepIn K (.ref f_Signature_declare_sort) = true)
    (a_Signature_declare_function : PySem.W.findIn K (.ref C_Signature) "declare_function" = some (some (.ref f_Signature_declare_function)))
    (i_Signature_declare_function : PySem.W.typeIn K (.ref f_Signature_declare_function) = some (.type "function"))
    (l_Signature_declare_function : K.lookup f_Signature_declare_function = some ⟨oc_Signature_declare_function, od_Signature_declare_function, .func (PySem.W.fnOf "declare_function" "Signature.declare_function" (defArgs s_Signature_declare_function) (defBody s_Signature_declare_function) (defScope s_Signature_declare_function) .none kV_Signature_declare_function dc_Signature_declare_function pm_Signature_declare_function an_Signature_declare_function cd_Signature_declare_function ct_Signature_declare_function), sl_Signature_declare_function⟩)
    (c_Signature_declare_function : PySem.W.codeIn K cd_Signature_declare_function "Signature.declare_function" = true)
    (k_Signature_declare_function : PySem.W.keepIn K (.ref f_Signature_declare_function) = true)
    (a_Signature_knows_sort : PySem.W.findIn K (.ref C_Signature) "knows_sort" = some (some (.ref f_Signature_knows_sort)))
    (i_Signature_knows_sort : PySem.W.typeIn K (.ref f_Signature_knows_sort) = some (.type "function"))
    (l_Signature_knows_sort : K.lookup f_Signature_knows_sort = some ⟨oc_Signature_knows_sort, od_Signature_knows_sort, .func (PySem.W.fnOf "knows_sort" "Signature.knows_sort" (defArgs s_Signature_knows_sort) (defBody s_Signature_knows_sort) (defScope s_Signature_knows_sort) .none kV_Signature_knows_sort dc_Signature_knows_sort pm_Signature_knows_sort an_Signature_knows_sort cd_Signature_knows_sort ct_Signature_knows_sort), sl_Signature_knows_sort⟩)
    (c_Signature_knows_sort : PySem.W.codeIn K cd_Signature_knows_sort "Signature.knows_sort" = true)
    (k_Signature_knows_sort : PySem.W.keepIn K (.ref f_Signature_knows_sort) = true)
    (a_Signature_knows_function : PySem.W.findIn K (.ref C_Signature) "knows_function" = some (some (.ref f_Signature_knows_function)))
    (i_Signature_knows_function : PySem.W.typeIn K (.ref f_Signature_knows_function) = some (.type "function"))
    (l_Signature_knows_function : K.lookup f_Signature_knows_function = some ⟨oc_Signature_knows_function, od_Signature_knows_function, .func (PySem.W.fnOf "knows_function" "Signature.knows_function" (defArgs s_Signature_knows_function) (defBody s_Signature_knows_function) (defScope s_Signature_knows_function) .none kV_Signature_knows_function dc_Signature_knows_function pm_Signature_knows_function an_Signature_knows_function cd_Signature_knows_function ct_Signature_knows_function), sl_Signature_knows_function⟩)
    (c_Signature_knows_function : PySem.W.codeIn K cd_Signature_knows_function "Signature.knows_function" = true)
    (k_Signature_knows_function : PySem.W.keepIn K (.ref f_Signature_knows_function) = true)
    (a_Signature_arguments_of : PySem.W.findIn K (.ref C_Signature) "arguments_of" = some (some (.ref f_Signature_arguments_of)))
    (i_Signature_arguments_of : PySem.W.typeIn K (.ref f_Signature_arguments_of) = some (.type "function"))
    (l_Signature_arguments_of : K.lookup f_Signature_arguments_of = some ⟨oc_Signature_arguments_of, od_Signature_arguments_of, .func (PySem.W.fnOf "arguments_of" "Signature.arguments_of" (defArgs s_Signature_arguments_of) (defBody s_Signature_arguments_of) (defScope s_Signature_arguments_of) .none kV_Signature_arguments_of dc_Signature_arguments_of pm_Signature_arguments_of an_Signature_arguments_of cd_Signature_arguments_of ct_Signature_arguments_of), sl_Signature_arguments_of⟩)
    (c_Signature_arguments_of : PySem.W.codeIn K cd_Signature_arguments_of "Signature.arguments_of" = true)
    (k_Signature_arguments_of : PySem.W.keepIn K (.ref f_Signature_arguments_of) = true)
    (a_Signature_result_of : PySem.W.findIn K (.ref C_Signature) "result_of" = some (some (.ref f_Signature_result_of)))
    (i_Signature_result_of : PySem.W.typeIn K (.ref f_Signature_result_of) = some (.type "function"))
    (l_Signature_result_of : K.lookup f_Signature_result_of = some ⟨oc_Signature_result_of, od_Signature_result_of, .func (PySem.W.fnOf "result_of" "Signature.result_of" (defArgs s_Signature_result_of) (defBody s_Signature_result_of) (defScope s_Signature_result_of) .none kV_Signature_result_of dc_Signature_result_of pm_Signature_result_of an_Signature_result_of cd_Signature_result_of ct_Signature_result_of), sl_Signature_result_of⟩)
    (c_Signature_result_of : PySem.W.codeIn K cd_Signature_result_of "Signature.result_of" = true)
    (k_Signature_result_of : PySem.W.keepIn K (.ref f_Signature_result_of) = true)
    (a_Signature_function : PySem.W.findIn K (.ref C_Signature) "_function" = some (some (.ref f_Signature_function)))
    (i_Signature_function : PySem.W.typeIn K (.ref f_Signature_function) = some (.type "function"))
    (l_Signature_function : K.lookup f_Signature_function = some ⟨oc_Signature_function, od_Signature_function, .func (PySem.W.fnOf "_function" "Signature._function" (defArgs s_Signature_function) (defBody s_Signature_function) (defScope s_Signature_function) .none kV_Signature_function dc_Signature_function pm_Signature_function an_Signature_function cd_Signature_function ct_Signature_function), sl_Signature_function⟩)
    (c_Signature_function : PySem.W.codeIn K cd_Signature_function "Signature._function" = true)
    (k_Signature_function : PySem.W.keepIn K (.ref f_Signature_function) = true)
    (a_Signature_refuse_name : PySem.W.findIn K (.ref C_Signature) "_refuse_name" = some (some (.ref f_Signature_refuse_name)))
    (i_Signature_refuse_name : PySem.W.typeIn K (.ref f_Signature_refuse_name) = some (.type "function"))
    (l_Signature_refuse_name : K.lookup f_Signature_refuse_name = some ⟨oc_Signature_refuse_name, od_Signature_refuse_name, .func (PySem.W.fnOf "_refuse_name" "Signature._refuse_name" (defArgs s_Signature_refuse_name) (defBody s_Signature_refuse_name) (defScope s_Signature_refuse_name) .none kV_Signature_refuse_name dc_Signature_refuse_name pm_Signature_refuse_name an_Signature_refuse_name cd_Signature_refuse_name ct_Signature_refuse_name), sl_Signature_refuse_name⟩)
    (c_Signature_refuse_name : PySem.W.codeIn K cd_Signature_refuse_name "Signature._refuse_name" = true)
    (k_Signature_refuse_name : PySem.W.keepIn K (.ref f_Signature_refuse_name) = true)
    (pg_Signature : PySem.W.plainGet K C_Signature Str.empty = true)
    (hd_Signature : PySem.W.hasDictIn K C_Signature = true)
    (po_Signature : PySem.W.plainOver K C_Signature = true)
    (sa_Signature : PySem.W.findIn K (.ref C_Signature) "__setattr__" = some (some (.builtin "object.__setattr__")))
    (mk_Signature : PySem.W.makesIn K C_Signature = true)
    (kc_Signature : PySem.W.keepIn K (.ref C_Signature) = true)
    (nf_Signature__sorts : PySem.W.findIn K (.ref C_Signature) "_sorts" = some none)
    (nf_Signature__functions : PySem.W.findIn K (.ref C_Signature) "_functions" = some none)
    (pg_Bank : PySem.W.plainGet K C_Bank Str.empty = true)
    (hd_Bank : PySem.W.hasDictIn K C_Bank = true)
    (po_Bank : PySem.W.plainOver K C_Bank = true)
    (sa_Bank : PySem.W.findIn K (.ref C_Bank) "__setattr__" = some (some (.builtin "object.__setattr__")))
    (mk_Bank : PySem.W.makesIn K C_Bank = true)
    (kc_Bank : PySem.W.keepIn K (.ref C_Bank) = true)
    (nf_Bank_signature : PySem.W.findIn K (.ref C_Bank) "signature" = some none)
    (nf_Bank__nodes : PySem.W.findIn K (.ref C_Bank) "_nodes" = some none)
    (nf_Bank__sorts : PySem.W.findIn K (.ref C_Bank) "_sorts" = some none)
    (nf_Bank__numbers : PySem.W.findIn K (.ref C_Bank) "_numbers" = some none)
    (nz_OPS : PySem.W.nsIn K mainGlobals "OPS" = some (some (.ref A_OPS)))
    (nz_RESERVED : PySem.W.nsIn K mainGlobals "RESERVED" = some (some (.ref A_RESERVED)))
    (nz_BASE_SORTS : PySem.W.nsIn K mainGlobals "BASE_SORTS" = some (some (.ref A_BASE_SORTS)))
    (nz_NUMBER_SORTS : PySem.W.nsIn K mainGlobals "NUMBER_SORTS" = some (some (.ref A_NUMBER_SORTS)))
    (nz_CONNECTIVES : PySem.W.nsIn K mainGlobals "CONNECTIVES" = some (some (.ref A_CONNECTIVES)))
    (nz_LEAF_SORTS : PySem.W.nsIn K mainGlobals "LEAF_SORTS" = some (some (.ref A_LEAF_SORTS)))
    (nz_SUMS : PySem.W.nsIn K mainGlobals "SUMS" = some (some (.ref A_SUMS)))
    (zl_OPS : K.lookup A_OPS = some ⟨.type "tuple", dd_OPS, .seq #[.str (_root_.SX.S [116, 114, 117, 101]) t_OPS_0, .str (_root_.SX.S [102, 97, 108, 115, 101]) t_OPS_1, .str (_root_.SX.S [110, 111, 116]) t_OPS_2, .str (_root_.SX.S [97, 110, 100]) t_OPS_3, .str (_root_.SX.S [111, 114]) t_OPS_4, .str (_root_.SX.S [105, 109, 112, 108, 121]) t_OPS_5, .str (_root_.SX.S [105, 102]) t_OPS_6, .str (_root_.SX.S [101, 113, 117, 97, 108]) t_OPS_7, .str (_root_.SX.S [100, 105, 115, 116, 105, 110, 99, 116]) t_OPS_8, .str (_root_.SX.S [109, 111, 115, 116]) t_OPS_9, .str (_root_.SX.S [108, 101, 115, 115]) t_OPS_10, .str (_root_.SX.S [119, 104, 111, 108, 101]) t_OPS_11, .str (_root_.SX.S [115, 104, 105, 102, 116]) t_OPS_12, .str (_root_.SX.S [114, 97, 116, 105, 111]) t_OPS_13, .str (_root_.SX.S [115, 117, 109]) t_OPS_14, .str (_root_.SX.S [115, 99, 97, 108, 101]) t_OPS_15, .str (_root_.SX.S [99, 97, 108, 108]) t_OPS_16] nn_OPS, sl_OPS⟩)
    (zl_RESERVED : K.lookup A_RESERVED = some ⟨.type "tuple", dd_RESERVED, .seq #[.str (_root_.SX.S [116, 114, 117, 116, 104]) t_RESERVED_0, .str (_root_.SX.S [119, 104, 111, 108, 101]) t_RESERVED_1, .str (_root_.SX.S [114, 97, 116, 105, 111]) t_RESERVED_2, .str (_root_.SX.S [116, 114, 117, 101]) t_RESERVED_3, .str (_root_.SX.S [102, 97, 108, 115, 101]) t_RESERVED_4, .str (_root_.SX.S [110, 111, 116]) t_RESERVED_5, .str (_root_.SX.S [97, 110, 100]) t_RESERVED_6, .str (_root_.SX.S [111, 114]) t_RESERVED_7, .str (_root_.SX.S [105, 109, 112, 108, 121]) t_RESERVED_8, .str (_root_.SX.S [105, 102]) t_RESERVED_9, .str (_root_.SX.S [100, 105, 115, 116, 105, 110, 99, 116]) t_RESERVED_10, .str (_root_.SX.S [108, 101, 116]) t_RESERVED_11] nn_RESERVED, sl_RESERVED⟩)
    (zl_BASE_SORTS : K.lookup A_BASE_SORTS = some ⟨.type "tuple", dd_BASE_SORTS, .seq #[.str (_root_.SX.S [116, 114, 117, 116, 104]) t_BASE_SORTS_0, .str (_root_.SX.S [119, 104, 111, 108, 101]) t_BASE_SORTS_1, .str (_root_.SX.S [114, 97, 116, 105, 111]) t_BASE_SORTS_2] nn_BASE_SORTS, sl_BASE_SORTS⟩)
    (zl_NUMBER_SORTS : K.lookup A_NUMBER_SORTS = some ⟨.type "tuple", dd_NUMBER_SORTS, .seq #[.str (_root_.SX.S [119, 104, 111, 108, 101]) t_NUMBER_SORTS_0, .str (_root_.SX.S [114, 97, 116, 105, 111]) t_NUMBER_SORTS_1] nn_NUMBER_SORTS, sl_NUMBER_SORTS⟩)
    (zl_CONNECTIVES : K.lookup A_CONNECTIVES = some ⟨.type "tuple", dd_CONNECTIVES, .seq #[.str (_root_.SX.S [110, 111, 116]) t_CONNECTIVES_0, .str (_root_.SX.S [97, 110, 100]) t_CONNECTIVES_1, .str (_root_.SX.S [111, 114]) t_CONNECTIVES_2, .str (_root_.SX.S [105, 109, 112, 108, 121]) t_CONNECTIVES_3] nn_CONNECTIVES, sl_CONNECTIVES⟩)
    (nd_LEAF_SORTS_0 : PySem.W.nsIn K A_LEAF_SORTS (_root_.SX.S [116, 114, 117, 101]) = some (some (.str (_root_.SX.S [116, 114, 117, 116, 104]) t_LEAF_SORTS_0)))
    (nd_LEAF_SORTS_1 : PySem.W.nsIn K A_LEAF_SORTS (_root_.SX.S [102, 97, 108, 115, 101]) = some (some (.str (_root_.SX.S [116, 114, 117, 116, 104]) t_LEAF_SORTS_1)))
    (nd_LEAF_SORTS_2 : PySem.W.nsIn K A_LEAF_SORTS (_root_.SX.S [119, 104, 111, 108, 101]) = some (some (.str (_root_.SX.S [119, 104, 111, 108, 101]) t_LEAF_SORTS_2)))
    (nd_LEAF_SORTS_3 : PySem.W.nsIn K A_LEAF_SORTS (_root_.SX.S [114, 97, 116, 105, 111]) = some (some (.str (_root_.SX.S [114, 97, 116, 105, 111]) t_LEAF_SORTS_3)))
    (kd_LEAF_SORTS : K.lookup A_LEAF_SORTS = some ⟨.type "dict", none, .dict ke_LEAF_SORTS kn_LEAF_SORTS, #[]⟩)
    (kl_LEAF_SORTS : PySem.W.KeysLit w.params ke_LEAF_SORTS.toList)
    (ko_LEAF_SORTS : (A_LEAF_SORTS == sysModules) = false)
    (nd_SUMS_0 : PySem.W.nsIn K A_SUMS (_root_.SX.S [115, 104, 105, 102, 116]) = some (some (.str (_root_.SX.S [119, 104, 111, 108, 101]) t_SUMS_0)))
    (nd_SUMS_1 : PySem.W.nsIn K A_SUMS (_root_.SX.S [115, 99, 97, 108, 101]) = some (some (.str (_root_.SX.S [114, 97, 116, 105, 111]) t_SUMS_1)))
    (nd_SUMS_2 : PySem.W.nsIn K A_SUMS (_root_.SX.S [115, 117, 109]) = some (some (.str (_root_.SX.S [114, 97, 116, 105, 111]) t_SUMS_2)))
    (kd_SUMS : K.lookup A_SUMS = some ⟨.type "dict", none, .dict ke_SUMS kn_SUMS, #[]⟩)
    (kl_SUMS : PySem.W.KeysLit w.params ke_SUMS.toList)
    (ko_SUMS : (A_SUMS == sysModules) = false) :
    ∃ fd : FuncData, (∀ (s : Shared) (v : Value), BindsTo s fd ⟨[v], []⟩ [("_law_script", v)]) ∧ ∀ base : Heap, K.In base → base.Ns mainGlobals mg → FnOk l.prog w K mg base CX0 12 fa fd ["_law_script"] (spLaw K) := by
  have e := hfa.symm.trans (PySem.W.mg_of X G a_law)
  have e2 : f_law = fa := by
    cases e
    rfl
  subst e2
  let T : Txt K mg := {
    f_parts_kept := f_parts_kept, fd_parts_kept := _, F_parts_kept := fun_mk (st := s_parts_kept) l_parts_kept c_parts_kept k_parts_kept, b_parts_kept := (fun_mk (st := s_parts_kept) l_parts_kept c_parts_kept k_parts_kept).binds (ps := ["op", "parts"]) fun _ _ _ _ _ _ us hl => match us, hl with | [_, _], _ => rfl, g_parts_kept := PySem.W.mg_of X G a_parts_kept,
    f_sort_made := f_sort_made, fd_sort_made := _, F_sort_made := fun_mk (st := s_sort_made) l_sort_made c_sort_made k_sort_made, b_sort_made := (fun_mk (st := s_sort_made) l_sort_made c_sort_made k_sort_made).binds (ps := ["signature", "op", "value", "sorts"]) fun _ _ _ _ _ _ us hl => match us, hl with | [_, _, _, _], _ => rfl, g_sort_made := PySem.W.mg_of X G a_sort_made,
    f_sum_fits := f_sum_fits, fd_sum_fits := _, F_sum_fits := fun_mk (st := s_sum_fits) l_sum_fits c_sum_fits k_sum_fits, b_sum_fits := (fun_mk (st := s_sum_fits) l_sum_fits c_sum_fits k_sum_fits).binds (ps := ["op", "sorts"]) fun _ _ _ _ _ _ us hl => match us, hl with | [_, _], _ => rfl, g_sum_fits := PySem.W.mg_of X G a_sum_fits,
    f_connective_fits := f_connective_fits, fd_connective_fits := _, F_connective_fits := fun_mk (st := s_connective_fits) l_connective_fits c_connective_fits k_connective_fits, b_connective_fits := (fun_mk (st := s_connective_fits) l_connective_fits c_connective_fits k_connective_fits).binds (ps := ["op", "sorts"]) fun _ _ _ _ _ _ us hl => match us, hl with | [_, _], _ => rfl, g_connective_fits := PySem.W.mg_of X G a_connective_fits,
    f_comparison_fits := f_comparison_fits, fd_comparison_fits := _, F_comparison_fits := fun_mk (st := s_comparison_fits) l_comparison_fits c_comparison_fits k_comparison_fits, b_comparison_fits := (fun_mk (st := s_comparison_fits) l_comparison_fits c_comparison_fits k_comparison_fits).binds (ps := ["op", "sorts"]) fun _ _ _ _ _ _ us hl => match us, hl with | [_, _], _ => rfl, g_comparison_fits := PySem.W.mg_of X G a_comparison_fits,
    f_all_of := f_all_of, fd_all_of := _, F_all_of := fun_mk (st := s_all_of) l_all_of c_all_of k_all_of, b_all_of := (fun_mk (st := s_all_of) l_all_of c_all_of k_all_of).binds (ps := ["sorts", "wanted"]) fun _ _ _ _ _ _ us hl => match us, hl with | [_, _], _ => rfl, g_all_of := PySem.W.mg_of X G a_all_of,
    f_is_name := f_is_name, fd_is_name := _, F_is_name := fun_mk (st := s_is_name) l_is_name c_is_name k_is_name, b_is_name := (fun_mk (st := s_is_name) l_is_name c_is_name k_is_name).binds (ps := ["text"]) fun _ _ _ _ _ _ us hl => match us, hl with | [_], _ => rfl, g_is_name := PySem.W.mg_of X G a_is_name,
    f_meeting_pairs := f_meeting_pairs, fd_meeting_pairs := _, F_meeting_pairs := fun_mk (st := s_meeting_pairs) l_meeting_pairs c_meeting_pairs k_meeting_pairs, b_meeting_pairs := (fun_mk (st := s_meeting_pairs) l_meeting_pairs c_meeting_pairs k_meeting_pairs).binds (ps := ["bank", "nodes"]) fun _ _ _ _ _ _ us hl => match us, hl with | [_, _], _ => rfl, g_meeting_pairs := PySem.W.mg_of X G a_meeting_pairs,
    f_pairs_of_calls := f_pairs_of_calls, fd_pairs_of_calls := _, F_pairs_of_calls := fun_mk (st := s_pairs_of_calls) l_pairs_of_calls c_pairs_of_calls k_pairs_of_calls, b_pairs_of_calls := (fun_mk (st := s_pairs_of_calls) l_pairs_of_calls c_pairs_of_calls k_pairs_of_calls).binds (ps := ["bank", "u", "v"]) fun _ _ _ _ _ _ us hl => match us, hl with | [_, _, _], _ => rfl, g_pairs_of_calls := PySem.W.mg_of X G a_pairs_of_calls,
    f_pool := f_pool, fd_pool := _, F_pool := fun_mk (st := s_pool) l_pool c_pool k_pool, b_pool := (fun_mk (st := s_pool) l_pool c_pool k_pool).binds (ps := ["_law_script", "_law_k"]) fun _ _ _ _ _ _ us hl => match us, hl with | [_, _], _ => rfl, g_pool := PySem.W.mg_of X G a_pool,
    f_take := f_take, fd_take := _, F_take := fun_mk (st := s_take) l_take c_take k_take, b_take := (fun_mk (st := s_take) l_take c_take k_take).binds (ps := ["_law_pool_here", "_law_size"]) fun _ _ _ _ _ _ us hl => match us, hl with | [_, _], _ => rfl, g_take := PySem.W.mg_of X G a_take,
    f_word := f_word, fd_word := _, F_word := fun_mk (st := s_word) l_word c_word k_word, b_word := (fun_mk (st := s_word) l_word c_word k_word).binds (ps := ["_law_pool_here", "_law_place"]) fun _ _ _ _ _ _ us hl => match us, hl with | [_, _], _ => rfl, g_word := PySem.W.mg_of X G a_word,
    f_world := f_world, fd_world := _, F_world := fun_mk (st := s_world) l_world c_world k_world, b_world := (fun_mk (st := s_world) l_world c_world k_world).binds (ps := ["_law_pool_here"]) fun _ _ _ _ _ _ us hl => match us, hl with | [_], _ => rfl, g_world := PySem.W.mg_of X G a_world,
    f_declare := f_declare, fd_declare := _, F_declare := fun_mk (st := s_declare) l_declare c_declare k_declare, b_declare := (fun_mk (st := s_declare) l_declare c_declare k_declare).binds (ps := ["_law_world_here", "_law_desk"]) fun _ _ _ _ _ _ us hl => match us, hl with | [_, _], _ => rfl, g_declare := PySem.W.mg_of X G a_declare,
    f_alike := f_alike, fd_alike := _, F_alike := fun_mk (st := s_alike) l_alike c_alike k_alike, b_alike := (fun_mk (st := s_alike) l_alike c_alike k_alike).binds (ps := ["_law_told", "_law_due_here"]) fun _ _ _ _ _ _ us hl => match us, hl with | [_, _], _ => rfl, g_alike := PySem.W.mg_of X G a_alike,
    f_sort_for := f_sort_for, fd_sort_for := _, F_sort_for := fun_mk (st := s_sort_for) l_sort_for c_sort_for k_sort_for, b_sort_for := (fun_mk (st := s_sort_for) l_sort_for c_sort_for k_sort_for).binds (ps := ["_law_world_here", "_law_sorts", "_law_node"]) fun _ _ _ _ _ _ us hl => match us, hl with | [_, _, _], _ => rfl, g_sort_for := PySem.W.mg_of X G a_sort_for,
    f_put := f_put, fd_put := _, F_put := fun_mk (st := s_put) l_put c_put k_put, b_put := (fun_mk (st := s_put) l_put c_put k_put).binds (ps := ["_law_world_here", "_law_table", "_law_op", "_law_value", "_law_parts"]) fun _ _ _ _ _ _ us hl => match us, hl with | [_, _, _, _, _], _ => rfl, g_put := PySem.W.mg_of X G a_put,
    f_make := f_make, fd_make := _, F_make := fun_mk (st := s_make) l_make c_make k_make, b_make := (fun_mk (st := s_make) l_make c_make k_make).binds (ps := ["_law_world_here", "_law_table", "_law_bank", "_law_row"]) fun _ _ _ _ _ _ us hl => match us, hl with | [_, _, _, _], _ => rfl, g_make := PySem.W.mg_of X G a_make,
    f_some := f_some, fd_some := _, F_some := fun_mk (st := s_some) l_some c_some k_some, b_some := (fun_mk (st := s_some) l_some c_some k_some).binds (ps := ["_law_pool_here", "_law_sorts", "_law_sort"]) fun _ _ _ _ _ _ us hl => match us, hl with | [_, _, _], _ => rfl, g_some := PySem.W.mg_of X G a_some,
    f_wide := f_wide, fd_wide := _, F_wide := fun_mk (st := s_wide) l_wide c_wide k_wide, b_wide := (fun_mk (st := s_wide) l_wide c_wide k_wide).binds (ps := ["_law_pool_here", "_law_world_here"]) fun _ _ _ _ _ _ us hl => match us, hl with | [_, _], _ => rfl, g_wide := PySem.W.mg_of X G a_wide,
    f_begun := f_begun, fd_begun := _, F_begun := fun_mk (st := s_begun) l_begun c_begun k_begun, b_begun := (fun_mk (st := s_begun) l_begun c_begun k_begun).binds (ps := ["_law_pool_here", "_law_world_here", "_law_table", "_law_bank"]) fun _ _ _ _ _ _ us hl => match us, hl with | [_, _, _, _], _ => rfl, g_begun := PySem.W.mg_of X G a_begun,
    f_called := f_called, fd_called := _, F_called := fun_mk (st := s_called) l_called c_called k_called, b_called := (fun_mk (st := s_called) l_called c_called k_called).binds (ps := ["_law_pool_here", "_law_world_here", "_law_table", "_law_bank", "_law_liked"]) fun _ _ _ _ _ _ us hl => match us, hl with | [_, _, _, _, _], _ => rfl, g_called := PySem.W.mg_of X G a_called,
    f_list := f_list, fd_list := _, F_list := fun_mk (st := s_list) l_list c_list k_list, b_list := (fun_mk (st := s_list) l_list c_list k_list).binds (ps := ["_law_pool_here", "_law_many"]) fun _ _ _ _ _ _ us hl => match us, hl with | [_, _], _ => rfl, g_list := PySem.W.mg_of X G a_list,
    f_note := f_note, fd_note := _, F_note := fun_mk (st := s_note) l_note c_note k_note, b_note := (fun_mk (st := s_note) l_note c_note k_note).binds (ps := ["_law_table", "_law_pairs", "_law_a", "_law_b"]) fun _ _ _ _ _ _ us hl => match us, hl with | [_, _, _, _], _ => rfl, g_note := PySem.W.mg_of X G a_note,
    f_due := f_due, fd_due := _, F_due := fun_mk (st := s_due) l_due c_due k_due, b_due := (fun_mk (st := s_due) l_due c_due k_due).binds (ps := ["_law_table", "_law_given"]) fun _ _ _ _ _ _ us hl => match us, hl with | [_, _], _ => rfl, g_due := PySem.W.mg_of X G a_due,
    f_pairs_told := f_pairs_told, fd_pairs_told := _, F_pairs_told := fun_mk (st := s_pairs_told) l_pairs_told c_pairs_told k_pairs_told, b_pairs_told := (fun_mk (st := s_pairs_told) l_pairs_told c_pairs_told k_pairs_told).binds (ps := ["_law_table", "_law_bank", "_law_given"]) fun _ _ _ _ _ _ us hl => match us, hl with | [_, _, _], _ => rfl, g_pairs_told := PySem.W.mg_of X G a_pairs_told,
    f_law := f_law, fd_law := _, F_law := fun_mk (st := s_law) l_law c_law k_law, b_law := (fun_mk (st := s_law) l_law c_law k_law).binds (ps := ["_law_script"]) fun _ _ _ _ _ _ us hl => match us, hl with | [_], _ => rfl, g_law := PySem.W.mg_of X G a_law,
    m_len := PySem.W.mg_none_of X G m_len,
    m_int := PySem.W.mg_none_of X G m_int,
    m_min := PySem.W.mg_none_of X G m_min,
    m_max := PySem.W.mg_none_of X G m_max,
    m_isinstance := PySem.W.mg_none_of X G m_isinstance,
    m_range := PySem.W.mg_none_of X G m_range,
    m_bool := PySem.W.mg_none_of X G m_bool,
    m_str := PySem.W.mg_none_of X G m_str,
    m_list := PySem.W.mg_none_of X G m_list,
    m_tuple := PySem.W.mg_none_of X G m_tuple,
    m_sorted := PySem.W.mg_none_of X G m_sorted,
    m_enumerate := PySem.W.mg_none_of X G m_enumerate,
    m_zip := PySem.W.mg_none_of X G m_zip,
    m_set := PySem.W.mg_none_of X G m_set,
    m_all := PySem.W.mg_none_of X G m_all,
    m_iter := PySem.W.mg_none_of X G m_iter,
    f_Bank_init := f_Bank_init, fd_Bank_init := _, F_Bank_init := fun_mk (st := s_Bank_init) l_Bank_init c_Bank_init k_Bank_init, b_Bank_init := (fun_mk (st := s_Bank_init) l_Bank_init c_Bank_init k_Bank_init).binds (ps := ["self", "signature"]) fun _ _ _ _ _ _ us hl => match us, hl with | [_, _], _ => rfl,
    f_Bank_make := f_Bank_make, fd_Bank_make := _, F_Bank_make := fun_mk (st := s_Bank_make) l_Bank_make c_Bank_make k_Bank_make, b_Bank_make := (fun_mk (st := s_Bank_make) l_Bank_make c_Bank_make k_Bank_make).binds (ps := ["self", "op", "value", "parts"]) fun _ _ _ _ _ _ us hl => match us, hl with | [_, _, _, _], _ => rfl,
    f_Bank_node := f_Bank_node, fd_Bank_node := _, F_Bank_node := fun_mk (st := s_Bank_node) l_Bank_node c_Bank_node k_Bank_node, b_Bank_node := (fun_mk (st := s_Bank_node) l_Bank_node c_Bank_node k_Bank_node).binds (ps := ["self", "number"]) fun _ _ _ _ _ _ us hl => match us, hl with | [_, _], _ => rfl,
    f_Bank_sort_of := f_Bank_sort_of, fd_Bank_sort_of := _, F_Bank_sort_of := fun_mk (st := s_Bank_sort_of) l_Bank_sort_of c_Bank_sort_of k_Bank_sort_of, b_Bank_sort_of := (fun_mk (st := s_Bank_sort_of) l_Bank_sort_of c_Bank_sort_of k_Bank_sort_of).binds (ps := ["self", "number"]) fun _ _ _ _ _ _ us hl => match us, hl with | [_, _], _ => rfl,
    f_Bank_has := f_Bank_has, fd_Bank_has := _, F_Bank_has := fun_mk (st := s_Bank_has) l_Bank_has c_Bank_has k_Bank_has, b_Bank_has := (fun_mk (st := s_Bank_has) l_Bank_has c_Bank_has k_Bank_has).binds (ps := ["self", "number"]) fun _ _ _ _ _ _ us hl => match us, hl with | [_, _], _ => rfl,
    f_Bank_len := f_Bank_len, fd_Bank_len := _, F_Bank_len := fun_mk (st := s_Bank_len) l_Bank_len c_Bank_len k_Bank_len, b_Bank_len := (fun_mk (st := s_Bank_len) l_Bank_len c_Bank_len k_Bank_len).binds (ps := ["self"]) fun _ _ _ _ _ _ us hl => match us, hl with | [_], _ => rfl,
    f_Bank_iter := f_Bank_iter, fd_Bank_iter := _, F_Bank_iter := fun_mk (st := s_Bank_iter) l_Bank_iter c_Bank_iter k_Bank_iter, b_Bank_iter := (fun_mk (st := s_Bank_iter) l_Bank_iter c_Bank_iter k_Bank_iter).binds (ps := ["self"]) fun _ _ _ _ _ _ us hl => match us, hl with | [_], _ => rfl,
    f_Signature_init := f_Signature_init, fd_Signature_init := _, F_Signature_init := fun_mk (st := s_Signature_init) l_Signature_init c_Signature_init k_Signature_init, b_Signature_init := (fun_mk (st := s_Signature_init) l_Signature_init c_Signature_init k_Signature_init).binds (ps := ["self"]) fun _ _ _ _ _ _ us hl => match us, hl with | [_], _ => rfl,
    f_Signature_declare_sort := f_Signature_declare_sort, fd_Signature_declare_sort := _, F_Signature_declare_sort := fun_mk (st := s_Signature_declare_sort) l_Signature_declare_sort c_Signature_declare_sort k_Signature_declare_sort, b_Signature_declare_sort := (fun_mk (st := s_Signature_declare_sort) l_Signature_declare_sort c_Signature_declare_sort k_Signature_declare_sort).binds (ps := ["self", "name"]) fun _ _ _ _ _ _ us hl => match us, hl with | [_, _], _ => rfl,
    f_Signature_declare_function := f_Signature_declare_function, fd_Signature_declare_function := _, F_Signature_declare_function := fun_mk (st := s_Signature_declare_function) l_Signature_declare_function c_Signature_declare_function k_Signature_declare_function, b_Signature_declare_function := (fun_mk (st := s_Signature_declare_function) l_Signature_declare_function c_Signature_declare_function k_Signature_declare_function).binds (ps := ["self", "name", "arguments", "result"]) fun _ _ _ _ _ _ us hl => match us, hl with | [_, _, _, _], _ => rfl,
    f_Signature_knows_sort := f_Signature_knows_sort, fd_Signature_knows_sort := _, F_Signature_knows_sort := fun_mk (st := s_Signature_knows_sort) l_Signature_knows_sort c_Signature_knows_sort k_Signature_knows_sort, b_Signature_knows_sort := (fun_mk (st := s_Signature_knows_sort) l_Signature_knows_sort c_Signature_knows_sort k_Signature_knows_sort).binds (ps := ["self", "name"]) fun _ _ _ _ _ _ us hl => match us, hl with | [_, _], _ => rfl,
    f_Signature_knows_function := f_Signature_knows_function, fd_Signature_knows_function := _, F_Signature_knows_function := fun_mk (st := s_Signature_knows_function) l_Signature_knows_function c_Signature_knows_function k_Signature_knows_function, b_Signature_knows_function := (fun_mk (st := s_Signature_knows_function) l_Signature_knows_function c_Signature_knows_function k_Signature_knows_function).binds (ps := ["self", "name"]) fun _ _ _ _ _ _ us hl => match us, hl with | [_, _], _ => rfl,
    f_Signature_arguments_of := f_Signature_arguments_of, fd_Signature_arguments_of := _, F_Signature_arguments_of := fun_mk (st := s_Signature_arguments_of) l_Signature_arguments_of c_Signature_arguments_of k_Signature_arguments_of, b_Signature_arguments_of := (fun_mk (st := s_Signature_arguments_of) l_Signature_arguments_of c_Signature_arguments_of k_Signature_arguments_of).binds (ps := ["self", "name"]) fun _ _ _ _ _ _ us hl => match us, hl with | [_, _], _ => rfl,
    f_Signature_result_of := f_Signature_result_of, fd_Signature_result_of := _, F_Signature_result_of := fun_mk (st := s_Signature_result_of) l_Signature_result_of c_Signature_result_of k_Signature_result_of, b_Signature_result_of := (fun_mk (st := s_Signature_result_of) l_Signature_result_of c_Signature_result_of k_Signature_result_of).binds (ps := ["self", "name"]) fun _ _ _ _ _ _ us hl => match us, hl with | [_, _], _ => rfl,
    f_Signature_function := f_Signature_function, fd_Signature_function := _, F_Signature_function := fun_mk (st := s_Signature_function) l_Signature_function c_Signature_function k_Signature_function, b_Signature_function := (fun_mk (st := s_Signature_function) l_Signature_function c_Signature_function k_Signature_function).binds (ps := ["self", "name"]) fun _ _ _ _ _ _ us hl => match us, hl with | [_, _], _ => rfl,
    f_Signature_refuse_name := f_Signature_refuse_name, fd_Signature_refuse_name := _, F_Signature_refuse_name := fun_mk (st := s_Signature_refuse_name) l_Signature_refuse_name c_Signature_refuse_name k_Signature_refuse_name, b_Signature_refuse_name := (fun_mk (st := s_Signature_refuse_name) l_Signature_refuse_name c_Signature_refuse_name k_Signature_refuse_name).binds (ps := ["self", "name"]) fun _ _ _ _ _ _ us hl => match us, hl with | [_, _], _ => rfl,
    C_Signature := C_Signature, c_Signature := PySem.W.mg_of X G n_Signature, cl_Signature := ⟨pg_Signature, hd_Signature, po_Signature, sa_Signature⟩, mk_Signature := ⟨mk_Signature, a_Signature_init, beq_iff_eq.mpr i_Signature_init, kc_Signature⟩,
    n_Signature__sorts := nf_Signature__sorts,
    n_Signature__functions := nf_Signature__functions,
    M_Signature_init := ⟨a_Signature_init, beq_iff_eq.mpr i_Signature_init, k_Signature_init⟩,
    M_Signature_declare_sort := ⟨a_Signature_declare_sort, beq_iff_eq.mpr i_Signature_declare_sort, k_Signature_declare_sort⟩,
    M_Signature_declare_function := ⟨a_Signature_declare_function, beq_iff_eq.mpr i_Signature_declare_function, k_Signature_declare_function⟩,
    M_Signature_knows_sort := ⟨a_Signature_knows_sort, beq_iff_eq.mpr i_Signature_knows_sort, k_Signature_knows_sort⟩,
    M_Signature_knows_function := ⟨a_Signature_knows_function, beq_iff_eq.mpr i_Signature_knows_function, k_Signature_knows_function⟩,
    M_Signature_arguments_of := ⟨a_Signature_arguments_of, beq_iff_eq.mpr i_Signature_arguments_of, k_Signature_arguments_of⟩,
    M_Signature_result_of := ⟨a_Signature_result_of, beq_iff_eq.mpr i_Signature_result_of, k_Signature_result_of⟩,
    M_Signature_function := ⟨a_Signature_function, beq_iff_eq.mpr i_Signature_function, k_Signature_function⟩,
    M_Signature_refuse_name := ⟨a_Signature_refuse_name, beq_iff_eq.mpr i_Signature_refuse_name, k_Signature_refuse_name⟩,
    C_Bank := C_Bank, c_Bank := PySem.W.mg_of X G n_Bank, cl_Bank := ⟨pg_Bank, hd_Bank, po_Bank, sa_Bank⟩, mk_Bank := ⟨mk_Bank, a_Bank_init, beq_iff_eq.mpr i_Bank_init, kc_Bank⟩,
    n_Bank_signature := nf_Bank_signature,
    n_Bank__nodes := nf_Bank__nodes,
    n_Bank__sorts := nf_Bank__sorts,
    n_Bank__numbers := nf_Bank__numbers,
    M_Bank_init := ⟨a_Bank_init, beq_iff_eq.mpr i_Bank_init, k_Bank_init⟩,
    M_Bank_make := ⟨a_Bank_make, beq_iff_eq.mpr i_Bank_make, k_Bank_make⟩,
    M_Bank_node := ⟨a_Bank_node, beq_iff_eq.mpr i_Bank_node, k_Bank_node⟩,
    M_Bank_sort_of := ⟨a_Bank_sort_of, beq_iff_eq.mpr i_Bank_sort_of, k_Bank_sort_of⟩,
    M_Bank_has := ⟨a_Bank_has, beq_iff_eq.mpr i_Bank_has, k_Bank_has⟩,
    M_Bank_len := ⟨a_Bank_len, beq_iff_eq.mpr i_Bank_len, k_Bank_len⟩,
    M_Bank_iter := ⟨a_Bank_iter, beq_iff_eq.mpr i_Bank_iter, k_Bank_iter⟩,
    ln_Bank := ⟨a_Bank_len, i_Bank_len⟩,
    it_Bank := ⟨a_Bank_iter, beq_iff_eq.mpr i_Bank_iter, a_Bank_len, i_Bank_len⟩,
    A_OPS := A_OPS, g_OPS := PySem.W.mg_of X G nz_OPS,
    A_RESERVED := A_RESERVED, g_RESERVED := PySem.W.mg_of X G nz_RESERVED,
    A_BASE_SORTS := A_BASE_SORTS, g_BASE_SORTS := PySem.W.mg_of X G nz_BASE_SORTS,
    A_NUMBER_SORTS := A_NUMBER_SORTS, g_NUMBER_SORTS := PySem.W.mg_of X G nz_NUMBER_SORTS,
    A_CONNECTIVES := A_CONNECTIVES, g_CONNECTIVES := PySem.W.mg_of X G nz_CONNECTIVES,
    A_LEAF_SORTS := A_LEAF_SORTS, g_LEAF_SORTS := PySem.W.mg_of X G nz_LEAF_SORTS,
    A_SUMS := A_SUMS, g_SUMS := PySem.W.mg_of X G nz_SUMS,
    z_OPS := fun H => .inr ⟨_, _, nn_OPS, zl_OPS, rfl, rfl, (by show 17 ≤ sizeLine; decide), .cons ⟨_, rfl⟩ (.cons ⟨_, rfl⟩ (.cons ⟨_, rfl⟩ (.cons ⟨_, rfl⟩ (.cons ⟨_, rfl⟩ (.cons ⟨_, rfl⟩ (.cons ⟨_, rfl⟩ (.cons ⟨_, rfl⟩ (.cons ⟨_, rfl⟩ (.cons ⟨_, rfl⟩ (.cons ⟨_, rfl⟩ (.cons ⟨_, rfl⟩ (.cons ⟨_, rfl⟩ (.cons ⟨_, rfl⟩ (.cons ⟨_, rfl⟩ (.cons ⟨_, rfl⟩ (.cons ⟨_, rfl⟩ (.nil)))))))))))))))))⟩,
    z_RESERVED := fun H => .inr ⟨_, _, nn_RESERVED, zl_RESERVED, rfl, rfl, (by show 12 ≤ sizeLine; decide), .cons ⟨_, rfl⟩ (.cons ⟨_, rfl⟩ (.cons ⟨_, rfl⟩ (.cons ⟨_, rfl⟩ (.cons ⟨_, rfl⟩ (.cons ⟨_, rfl⟩ (.cons ⟨_, rfl⟩ (.cons ⟨_, rfl⟩ (.cons ⟨_, rfl⟩ (.cons ⟨_, rfl⟩ (.cons ⟨_, rfl⟩ (.cons ⟨_, rfl⟩ (.nil))))))))))))⟩,
    z_BASE_SORTS := fun H => .inr ⟨_, _, nn_BASE_SORTS, zl_BASE_SORTS, rfl, rfl, (by show 3 ≤ sizeLine; decide), .cons ⟨_, rfl⟩ (.cons ⟨_, rfl⟩ (.cons ⟨_, rfl⟩ (.nil)))⟩,
    z_NUMBER_SORTS := fun H => .inr ⟨_, _, nn_NUMBER_SORTS, zl_NUMBER_SORTS, rfl, rfl, (by show 2 ≤ sizeLine; decide), .cons ⟨_, rfl⟩ (.cons ⟨_, rfl⟩ (.nil))⟩,
    z_CONNECTIVES := fun H => .inr ⟨_, _, nn_CONNECTIVES, zl_CONNECTIVES, rfl, rfl, (by show 4 ≤ sizeLine; decide), .cons ⟨_, rfl⟩ (.cons ⟨_, rfl⟩ (.cons ⟨_, rfl⟩ (.cons ⟨_, rfl⟩ (.nil))))⟩,
    n_LEAF_SORTS := List.forall_mem_cons.mpr ⟨⟨_, nd_LEAF_SORTS_0⟩, List.forall_mem_cons.mpr ⟨⟨_, nd_LEAF_SORTS_1⟩, List.forall_mem_cons.mpr ⟨⟨_, nd_LEAF_SORTS_2⟩, List.forall_mem_cons.mpr ⟨⟨_, nd_LEAF_SORTS_3⟩, fun _ h => nomatch h⟩⟩⟩⟩,
    n_SUMS := List.forall_mem_cons.mpr ⟨⟨_, nd_SUMS_0⟩, List.forall_mem_cons.mpr ⟨⟨_, nd_SUMS_1⟩, List.forall_mem_cons.mpr ⟨⟨_, nd_SUMS_2⟩, fun _ h => nomatch h⟩⟩⟩ }
  exact ⟨PySem.W.fnOf "law" "law" (defArgs s_law) (defBody s_law) (defScope s_law) .none kV_law dc_law pm_law an_law cd_law ct_law, fun s v => .of_eq rfl, fun base _ _ => ok_law T ⟨⟨_, _, kd_LEAF_SORTS, kl_LEAF_SORTS, ko_LEAF_SORTS⟩, ⟨_, _, kd_SUMS, kl_SUMS, ko_SUMS⟩⟩⟩
end L

open PySem PySem.W PyProof.Rows
set_option maxHeartbeats 0 in
theorem PySem.Challenge.cw_papersat_k20_meeting_pairs_holds : PySem.Challenge.rw_papersat_k20_meeting_pairs.Holds := by
  w_on; o_law; k_head; (case hw => w_witness2)
  k_fill
  refine L2.walk_of (l := PySem.Challenge.rw_papersat_k20_meeting_pairs) (n := 63) (k := 12) (x := "_law_script") (CX := fun _ => L2.CX0) (sp := fun w => L.spLaw _) rfl (by decide) rfl ⟨rfl, by decide, by decide⟩ (fun w h Y => PySem.W.kIn_of Y) ?F (fun _ _ a ns hl _ hS => ⟨a, ns, rfl, hS, hl, fun _ => rfl⟩) (fun _ _ _ _ _ h => h)
  case F =>
    intro w mg fa h KX G hmg
    refine' L.all_mk KX G hmg ?a_parts_kept ?l_parts_kept ?c_parts_kept ?k_parts_kept ?a_sort_made ?l_sort_made ?c_sort_made ?k_sort_made ?a_sum_fits ?l_sum_fits ?c_sum_fits ?k_sum_fits ?a_connective_fits ?l_connective_fits ?c_connective_fits ?k_connective_fits ?a_comparison_fits ?l_comparison_fits ?c_comparison_fits ?k_comparison_fits ?a_all_of ?l_all_of ?c_all_of ?k_all_of ?a_is_name ?l_is_name ?c_is_name ?k_is_name ?a_meeting_pairs ?l_meeting_pairs ?c_meeting_pairs ?k_meeting_pairs ?a_pairs_of_calls ?l_pairs_of_calls ?c_pairs_of_calls ?k_pairs_of_calls ?a_pool ?l_pool ?c_pool ?k_pool ?a_take ?l_take ?c_take ?k_take ?a_word ?l_word ?c_word ?k_word ?a_world ?l_world ?c_world ?k_world ?a_declare ?l_declare ?c_declare ?k_declare ?a_alike ?l_alike ?c_alike ?k_alike ?a_sort_for ?l_sort_for ?c_sort_for ?k_sort_for ?a_put ?l_put ?c_put ?k_put ?a_make ?l_make ?c_make ?k_make ?a_some ?l_some ?c_some ?k_some ?a_wide ?l_wide ?c_wide ?k_wide ?a_begun ?l_begun ?c_begun ?k_begun ?a_called ?l_called ?c_called ?k_called ?a_list ?l_list ?c_list ?k_list ?a_note ?l_note ?c_note ?k_note ?a_due ?l_due ?c_due ?k_due ?a_pairs_told ?l_pairs_told ?c_pairs_told ?k_pairs_told ?a_law ?l_law ?c_law ?k_law ?m_len ?m_int ?m_min ?m_max ?m_isinstance ?m_range ?m_bool ?m_str ?m_list ?m_tuple ?m_sorted ?m_enumerate ?m_zip ?m_set ?m_all ?m_iter ?n_Signature ?n_Bank ?a_Bank_init ?i_Bank_init ?l_Bank_init ?c_Bank_init ?k_Bank_init ?a_Bank_make ?i_Bank_make ?l_Bank_make ?c_Bank_make ?k_Bank_make ?a_Bank_node ?i_Bank_node ?l_Bank_node ?c_Bank_node ?k_Bank_node ?a_Bank_sort_of ?i_Bank_sort_of ?l_Bank_sort_of ?c_Bank_sort_of ?k_Bank_sort_of ?a_Bank_has ?i_Bank_has ?l_Bank_has ?c_Bank_has ?k_Bank_has ?a_Bank_len ?i_Bank_len ?l_Bank_len ?c_Bank_len ?k_Bank_len ?a_Bank_iter ?i_Bank_iter ?l_Bank_iter ?c_Bank_iter ?k_Bank_iter ?a_Signature_init ?i_Signature_init ?l_Signature_init ?c_Signature_init ?k_Signature_init ?a_Signature_declare_sort ?i_Signature_declare_sort ?l_Signature_declare_sort ?c_Signature_declare_sort ?k_Signature_declare_sort ?a_Signature_declare_function ?i_Signature_declare_function ?l_Signature_declare_function ?c_Signature_declare_function ?k_Signature_declare_function ?a_Signature_knows_sort ?i_Signature_knows_sort ?l_Signature_knows_sort ?c_Signature_knows_sort ?k_Signature_knows_sort ?a_Signature_knows_function ?i_Signature_knows_function ?l_Signature_knows_function ?c_Signature_knows_function ?k_Signature_knows_function ?a_Signature_arguments_of ?i_Signature_arguments_of ?l_Signature_arguments_of ?c_Signature_arguments_of ?k_Signature_arguments_of ?a_Signature_result_of ?i_Signature_result_of ?l_Signature_result_of ?c_Signature_result_of ?k_Signature_result_of ?a_Signature_function ?i_Signature_function ?l_Signature_function ?c_Signature_function ?k_Signature_function ?a_Signature_refuse_name ?i_Signature_refuse_name ?l_Signature_refuse_name ?c_Signature_refuse_name ?k_Signature_refuse_name ?pg_Signature ?hd_Signature ?po_Signature ?sa_Signature ?mk_Signature ?kc_Signature ?nf_Signature__sorts ?nf_Signature__functions ?pg_Bank ?hd_Bank ?po_Bank ?sa_Bank ?mk_Bank ?kc_Bank ?nf_Bank_signature ?nf_Bank__nodes ?nf_Bank__sorts ?nf_Bank__numbers ?nz_OPS ?nz_RESERVED ?nz_BASE_SORTS ?nz_NUMBER_SORTS ?nz_CONNECTIVES ?nz_LEAF_SORTS ?nz_SUMS ?zl_OPS ?zl_RESERVED ?zl_BASE_SORTS ?zl_NUMBER_SORTS ?zl_CONNECTIVES ?nd_LEAF_SORTS_0 ?nd_LEAF_SORTS_1 ?nd_LEAF_SORTS_2 ?nd_LEAF_SORTS_3 ?kd_LEAF_SORTS ?kl_LEAF_SORTS ?ko_LEAF_SORTS ?nd_SUMS_0 ?nd_SUMS_1 ?nd_SUMS_2 ?kd_SUMS ?kl_SUMS ?ko_SUMS
    (case a_parts_kept => first | k_is | k_exc | rfl | kernel_rfl); (case l_parts_kept => first | k_is | k_exc | rfl | kernel_rfl); (case c_parts_kept => first | k_is | k_exc | rfl | kernel_rfl); (case k_parts_kept => first | k_is | k_exc | rfl | kernel_rfl); (case a_sort_made => first | k_is | k_exc | rfl | kernel_rfl); (case l_sort_made => first | k_is | k_exc | rfl | kernel_rfl); (case c_sort_made => first | k_is | k_exc | rfl | kernel_rfl); (case k_sort_made => first | k_is | k_exc | rfl | kernel_rfl); (case a_sum_fits => first | k_is | k_exc | rfl | kernel_rfl); (case l_sum_fits => first | k_is | k_exc | rfl | kernel_rfl); (case c_sum_fits => first | k_is | k_exc | rfl | kernel_rfl); (case k_sum_fits => first | k_is | k_exc | rfl | kernel_rfl); (case a_connective_fits => first | k_is | k_exc | rfl | kernel_rfl); (case l_connective_fits => first | k_is | k_exc | rfl | kernel_rfl); (case c_connective_fits => first | k_is | k_exc | rfl | kernel_rfl); (case k_connective_fits => first | k_is | k_exc | rfl | kernel_rfl); (case a_comparison_fits => first | k_is | k_exc | rfl | kernel_rfl); (case l_comparison_fits => first | k_is | k_exc | rfl | kernel_rfl); (case c_comparison_fits => first | k_is | k_exc | rfl | kernel_rfl); (case k_comparison_fits => first | k_is | k_exc | rfl | kernel_rfl); (case a_all_of => first | k_is | k_exc | rfl | kernel_rfl); (case l_all_of => first | k_is | k_exc | rfl | kernel_rfl); (case c_all_of => first | k_is | k_exc | rfl | kernel_rfl); (case k_all_of => first | k_is | k_exc | rfl | kernel_rfl); (case a_is_name => first | k_is | k_exc | rfl | kernel_rfl); (case l_is_name => first | k_is | k_exc | rfl | kernel_rfl); (case c_is_name => first | k_is | k_exc | rfl | kernel_rfl); (case k_is_name => first | k_is | k_exc | rfl | kernel_rfl); (case a_meeting_pairs => first | k_is | k_exc | rfl | kernel_rfl); (case l_meeting_pairs => first | k_is | k_exc | rfl | kernel_rfl); (case c_meeting_pairs => first | k_is | k_exc | rfl | kernel_rfl); (case k_meeting_pairs => first | k_is | k_exc | rfl | kernel_rfl); (case a_pairs_of_calls => first | k_is | k_exc | rfl | kernel_rfl); (case l_pairs_of_calls => first | k_is | k_exc | rfl | kernel_rfl); (case c_pairs_of_calls => first | k_is | k_exc | rfl | kernel_rfl); (case k_pairs_of_calls => first | k_is | k_exc | rfl | kernel_rfl); (case a_pool => first | k_is | k_exc | rfl | kernel_rfl); (case l_pool => first | k_is | k_exc | rfl | kernel_rfl); (case c_pool => first | k_is | k_exc | rfl | kernel_rfl); (case k_pool => first | k_is | k_exc | rfl | kernel_rfl); (case a_take => first | k_is | k_exc | rfl | kernel_rfl); (case l_take => first | k_is | k_exc | rfl | kernel_rfl); (case c_take => first | k_is | k_exc | rfl | kernel_rfl); (case k_take => first | k_is | k_exc | rfl | kernel_rfl); (case a_word => first | k_is | k_exc | rfl | kernel_rfl); (case l_word => first | k_is | k_exc | rfl | kernel_rfl); (case c_word => first | k_is | k_exc | rfl | kernel_rfl); (case k_word => first | k_is | k_exc | rfl | kernel_rfl); (case a_world => first | k_is | k_exc | rfl | kernel_rfl); (case l_world => first | k_is | k_exc | rfl | kernel_rfl); (case c_world => first | k_is | k_exc | rfl | kernel_rfl); (case k_world => first | k_is | k_exc | rfl | kernel_rfl); (case a_declare => first | k_is | k_exc | rfl | kernel_rfl); (case l_declare => first | k_is | k_exc | rfl | kernel_rfl); (case c_declare => first | k_is | k_exc | rfl | kernel_rfl); (case k_declare => first | k_is | k_exc | rfl | kernel_rfl); (case a_alike => first | k_is | k_exc | rfl | kernel_rfl); (case l_alike => first | k_is | k_exc | rfl | kernel_rfl); (case c_alike => first | k_is | k_exc | rfl | kernel_rfl); (case k_alike => first | k_is | k_exc | rfl | kernel_rfl); (case a_sort_for => first | k_is | k_exc | rfl | kernel_rfl); (case l_sort_for => first | k_is | k_exc | rfl | kernel_rfl); (case c_sort_for => first | k_is | k_exc | rfl | kernel_rfl); (case k_sort_for => first | k_is | k_exc | rfl | kernel_rfl); (case a_put => first | k_is | k_exc | rfl | kernel_rfl); (case l_put => first | k_is | k_exc | rfl | kernel_rfl); (case c_put => first | k_is | k_exc | rfl | kernel_rfl); (case k_put => first | k_is | k_exc | rfl | kernel_rfl); (case a_make => first | k_is | k_exc | rfl | kernel_rfl); (case l_make => first | k_is | k_exc | rfl | kernel_rfl); (case c_make => first | k_is | k_exc | rfl | kernel_rfl); (case k_make => first | k_is | k_exc | rfl | kernel_rfl); (case a_some => first | k_is | k_exc | rfl | kernel_rfl); (case l_some => first | k_is | k_exc | rfl | kernel_rfl); (case c_some => first | k_is | k_exc | rfl | kernel_rfl); (case k_some => first | k_is | k_exc | rfl | kernel_rfl); (case a_wide => first | k_is | k_exc | rfl | kernel_rfl); (case l_wide => first | k_is | k_exc | rfl | kernel_rfl); (case c_wide => first | k_is | k_exc | rfl | kernel_rfl); (case k_wide => first | k_is | k_exc | rfl | kernel_rfl); (case a_begun => first | k_is | k_exc | rfl | kernel_rfl); (case l_begun => first | k_is | k_exc | rfl | kernel_rfl); (case c_begun => first | k_is | k_exc | rfl | kernel_rfl); (case k_begun => first | k_is | k_exc | rfl | kernel_rfl); (case a_called => first | k_is | k_exc | rfl | kernel_rfl); (case l_called => first | k_is | k_exc | rfl | kernel_rfl); (case c_called => first | k_is | k_exc | rfl | kernel_rfl); (case k_called => first | k_is | k_exc | rfl | kernel_rfl); (case a_list => first | k_is | k_exc | rfl | kernel_rfl); (case l_list => first | k_is | k_exc | rfl | kernel_rfl); (case c_list => first | k_is | k_exc | rfl | kernel_rfl); (case k_list => first | k_is | k_exc | rfl | kernel_rfl); (case a_note => first | k_is | k_exc | rfl | kernel_rfl); (case l_note => first | k_is | k_exc | rfl | kernel_rfl); (case c_note => first | k_is | k_exc | rfl | kernel_rfl); (case k_note => first | k_is | k_exc | rfl | kernel_rfl); (case a_due => first | k_is | k_exc | rfl | kernel_rfl); (case l_due => first | k_is | k_exc | rfl | kernel_rfl); (case c_due => first | k_is | k_exc | rfl | kernel_rfl); (case k_due => first | k_is | k_exc | rfl | kernel_rfl); (case a_pairs_told => first | k_is | k_exc | rfl | kernel_rfl); (case l_pairs_told => first | k_is | k_exc | rfl | kernel_rfl); (case c_pairs_told => first | k_is | k_exc | rfl | kernel_rfl); (case k_pairs_told => first | k_is | k_exc | rfl | kernel_rfl); (case a_law => first | k_is | k_exc | rfl | kernel_rfl); (case l_law => first | k_is | k_exc | rfl | kernel_rfl); (case c_law => first | k_is | k_exc | rfl | kernel_rfl); (case k_law => first | k_is | k_exc | rfl | kernel_rfl); (case m_len => first | k_is | k_exc | rfl | kernel_rfl); (case m_int => first | k_is | k_exc | rfl | kernel_rfl); (case m_min => first | k_is | k_exc | rfl | kernel_rfl); (case m_max => first | k_is | k_exc | rfl | kernel_rfl); (case m_isinstance => first | k_is | k_exc | rfl | kernel_rfl); (case m_range => first | k_is | k_exc | rfl | kernel_rfl); (case m_bool => first | k_is | k_exc | rfl | kernel_rfl); (case m_str => first | k_is | k_exc | rfl | kernel_rfl); (case m_list => first | k_is | k_exc | rfl | kernel_rfl); (case m_tuple => first | k_is | k_exc | rfl | kernel_rfl); (case m_sorted => first | k_is | k_exc | rfl | kernel_rfl); (case m_enumerate => first | k_is | k_exc | rfl | kernel_rfl); (case m_zip => first | k_is | k_exc | rfl | kernel_rfl); (case m_set => first | k_is | k_exc | rfl | kernel_rfl); (case m_all => first | k_is | k_exc | rfl | kernel_rfl); (case m_iter => first | k_is | k_exc | rfl | kernel_rfl); (case n_Signature => first | k_is | k_exc | rfl | kernel_rfl); (case n_Bank => first | k_is | k_exc | rfl | kernel_rfl); (case a_Bank_init => first | k_is | k_exc | rfl | kernel_rfl); (case i_Bank_init => first | k_is | k_exc | rfl | kernel_rfl); (case l_Bank_init => first | k_is | k_exc | rfl | kernel_rfl); (case c_Bank_init => first | k_is | k_exc | rfl | kernel_rfl); (case k_Bank_init => first | k_is | k_exc | rfl | kernel_rfl); (case a_Bank_make => first | k_is | k_exc | rfl | kernel_rfl); (case i_Bank_make => first | k_is | k_exc | rfl | kernel_rfl); (case l_Bank_make => first | k_is | k_exc | rfl | kernel_rfl); (case c_Bank_make => first | k_is | k_exc | rfl | kernel_rfl); (case k_Bank_make => first | k_is | k_exc | rfl | kernel_rfl); (case a_Bank_node => first | k_is | k_exc | rfl | kernel_rfl); (case i_Bank_node => first | k_is | k_exc | rfl | kernel_rfl); (case l_Bank_node => first | k_is | k_exc | rfl | kernel_rfl); (case c_Bank_node => first | k_is | k_exc | rfl | kernel_rfl); (case k_Bank_node => first | k_is | k_exc | rfl | kernel_rfl); (case a_Bank_sort_of => first | k_is | k_exc | rfl | kernel_rfl); (case i_Bank_sort_of => first | k_is | k_exc | rfl | kernel_rfl); (case l_Bank_sort_of => first | k_is | k_exc | rfl | kernel_rfl); (case c_Bank_sort_of => first | k_is | k_exc | rfl | kernel_rfl); (case k_Bank_sort_of => first | k_is | k_exc | rfl | kernel_rfl); (case a_Bank_has => first | k_is | k_exc | rfl | kernel_rfl); (case i_Bank_has => first | k_is | k_exc | rfl | kernel_rfl); (case l_Bank_has => first | k_is | k_exc | rfl | kernel_rfl); (case c_Bank_has => first | k_is | k_exc | rfl | kernel_rfl); (case k_Bank_has => first | k_is | k_exc | rfl | kernel_rfl); (case a_Bank_len => first | k_is | k_exc | rfl | kernel_rfl); (case i_Bank_len => first | k_is | k_exc | rfl | kernel_rfl); (case l_Bank_len => first | k_is | k_exc | rfl | kernel_rfl); (case c_Bank_len => first | k_is | k_exc | rfl | kernel_rfl); (case k_Bank_len => first | k_is | k_exc | rfl | kernel_rfl); (case a_Bank_iter => first | k_is | k_exc | rfl | kernel_rfl); (case i_Bank_iter => first | k_is | k_exc | rfl | kernel_rfl); (case l_Bank_iter => first | k_is | k_exc | rfl | kernel_rfl); (case c_Bank_iter => first | k_is | k_exc | rfl | kernel_rfl); (case k_Bank_iter => first | k_is | k_exc | rfl | kernel_rfl); (case a_Signature_init => first | k_is | k_exc | rfl | kernel_rfl); (case i_Signature_init => first | k_is | k_exc | rfl | kernel_rfl); (case l_Signature_init => first | k_is | k_exc | rfl | kernel_rfl); (case c_Signature_init => first | k_is | k_exc | rfl | kernel_rfl); (case k_Signature_init => first | k_is | k_exc | rfl | kernel_rfl); (case a_Signature_declare_sort => first | k_is | k_exc | rfl | kernel_rfl); (case i_Signature_declare_sort => first | k_is | k_exc | rfl | kernel_rfl); (case l_Signature_declare_sort => first | k_is | k_exc | rfl | kernel_rfl); (case c_Signature_declare_sort => first | k_is | k_exc | rfl | kernel_rfl); (case k_Signature_declare_sort => first | k_is | k_exc | rfl | kernel_rfl); (case a_Signature_declare_function => first | k_is | k_exc | rfl | kernel_rfl); (case i_Signature_declare_function => first | k_is | k_exc | rfl | kernel_rfl); (case l_Signature_declare_function => first | k_is | k_exc | rfl | kernel_rfl); (case c_Signature_declare_function => first | k_is | k_exc | rfl | kernel_rfl); (case k_Signature_declare_function => first | k_is | k_exc | rfl | kernel_rfl); (case a_Signature_knows_sort => first | k_is | k_exc | rfl | kernel_rfl); (case i_Signature_knows_sort => first | k_is | k_exc | rfl | kernel_rfl); (case l_Signature_knows_sort => first | k_is | k_exc | rfl | kernel_rfl); (case c_Signature_knows_sort => first | k_is | k_exc | rfl | kernel_rfl); (case k_Signature_knows_sort => first | k_is | k_exc | rfl | kernel_rfl); (case a_Signature_knows_function => first | k_is | k_exc | rfl | kernel_rfl); (case i_Signature_knows_function => first | k_is | k_exc | rfl | kernel_rfl); (case l_Signature_knows_function => first | k_is | k_exc | rfl | kernel_rfl); (case c_Signature_knows_function => first | k_is | k_exc | rfl | kernel_rfl); (case k_Signature_knows_function => first | k_is | k_exc | rfl | kernel_rfl); (case a_Signature_arguments_of => first | k_is | k_exc | rfl | kernel_rfl); (case i_Signature_arguments_of => first | k_is | k_exc | rfl | kernel_rfl); (case l_Signature_arguments_of => first | k_is | k_exc | rfl | kernel_rfl); (case c_Signature_arguments_of => first | k_is | k_exc | rfl | kernel_rfl); (case k_Signature_arguments_of => first | k_is | k_exc | rfl | kernel_rfl); (case a_Signature_result_of => first | k_is | k_exc | rfl | kernel_rfl); (case i_Signature_result_of => first | k_is | k_exc | rfl | kernel_rfl); (case l_Signature_result_of => first | k_is | k_exc | rfl | kernel_rfl); (case c_Signature_result_of => first | k_is | k_exc | rfl | kernel_rfl); (case k_Signature_result_of => first | k_is | k_exc | rfl | kernel_rfl); (case a_Signature_function => first | k_is | k_exc | rfl | kernel_rfl); (case i_Signature_function => first | k_is | k_exc | rfl | kernel_rfl); (case l_Signature_function => first | k_is | k_exc | rfl | kernel_rfl); (case c_Signature_function => first | k_is | k_exc | rfl | kernel_rfl); (case k_Signature_function => first | k_is | k_exc | rfl | kernel_rfl); (case a_Signature_refuse_name => first | k_is | k_exc | rfl | kernel_rfl); (case i_Signature_refuse_name => first | k_is | k_exc | rfl | kernel_rfl); (case l_Signature_refuse_name => first | k_is | k_exc | rfl | kernel_rfl); (case c_Signature_refuse_name => first | k_is | k_exc | rfl | kernel_rfl); (case k_Signature_refuse_name => first | k_is | k_exc | rfl | kernel_rfl); (case pg_Signature => first | k_is | k_exc | rfl | kernel_rfl); (case hd_Signature => first | k_is | k_exc | rfl | kernel_rfl); (case po_Signature => first | k_is | k_exc | rfl | kernel_rfl); (case sa_Signature => first | k_is | k_exc | rfl | kernel_rfl); (case mk_Signature => first | k_is | k_exc | rfl | kernel_rfl); (case kc_Signature => first | k_is | k_exc | rfl | kernel_rfl); (case nf_Signature__sorts => first | k_is | k_exc | rfl | kernel_rfl); (case nf_Signature__functions => first | k_is | k_exc | rfl | kernel_rfl); (case pg_Bank => first | k_is | k_exc | rfl | kernel_rfl); (case hd_Bank => first | k_is | k_exc | rfl | kernel_rfl); (case po_Bank => first | k_is | k_exc | rfl | kernel_rfl); (case sa_Bank => first | k_is | k_exc | rfl | kernel_rfl); (case mk_Bank => first | k_is | k_exc | rfl | kernel_rfl); (case kc_Bank => first | k_is | k_exc | rfl | kernel_rfl); (case nf_Bank_signature => first | k_is | k_exc | rfl | kernel_rfl); (case nf_Bank__nodes => first | k_is | k_exc | rfl | kernel_rfl); (case nf_Bank__sorts => first | k_is | k_exc | rfl | kernel_rfl); (case nf_Bank__numbers => first | k_is | k_exc | rfl | kernel_rfl); (case nz_OPS => first | k_is | k_exc | rfl | kernel_rfl); (case nz_RESERVED => first | k_is | k_exc | rfl | kernel_rfl); (case nz_BASE_SORTS => first | k_is | k_exc | rfl | kernel_rfl); (case nz_NUMBER_SORTS => first | k_is | k_exc | rfl | kernel_rfl); (case nz_CONNECTIVES => first | k_is | k_exc | rfl | kernel_rfl); (case nz_LEAF_SORTS => first | k_is | k_exc | rfl | kernel_rfl); (case nz_SUMS => first | k_is | k_exc | rfl | kernel_rfl); (case zl_OPS => first | k_is | k_exc | rfl | kernel_rfl); (case zl_RESERVED => first | k_is | k_exc | rfl | kernel_rfl); (case zl_BASE_SORTS => first | k_is | k_exc | rfl | kernel_rfl); (case zl_NUMBER_SORTS => first | k_is | k_exc | rfl | kernel_rfl); (case zl_CONNECTIVES => first | k_is | k_exc | rfl | kernel_rfl); (case nd_LEAF_SORTS_0 => first | k_is | k_exc | rfl | kernel_rfl); (case nd_LEAF_SORTS_1 => first | k_is | k_exc | rfl | kernel_rfl); (case nd_LEAF_SORTS_2 => first | k_is | k_exc | rfl | kernel_rfl); (case nd_LEAF_SORTS_3 => first | k_is | k_exc | rfl | kernel_rfl); (case kd_LEAF_SORTS => first | k_is | k_exc | rfl | kernel_rfl); (case kl_LEAF_SORTS => repeat' (first | exact trivial | refine ⟨⟨_, _, rfl, rfl⟩, ?_⟩)); (case ko_LEAF_SORTS => first | k_is | k_exc | rfl | kernel_rfl); (case nd_SUMS_0 => first | k_is | k_exc | rfl | kernel_rfl); (case nd_SUMS_1 => first | k_is | k_exc | rfl | kernel_rfl); (case nd_SUMS_2 => first | k_is | k_exc | rfl | kernel_rfl); (case kd_SUMS => first | k_is | k_exc | rfl | kernel_rfl); (case kl_SUMS => repeat' (first | exact trivial | refine ⟨⟨_, _, rfl, rfl⟩, ?_⟩)); (case ko_SUMS => first | k_is | k_exc | rfl | kernel_rfl)
#print axioms PySem.Challenge.cw_papersat_k20_meeting_pairs_holds
